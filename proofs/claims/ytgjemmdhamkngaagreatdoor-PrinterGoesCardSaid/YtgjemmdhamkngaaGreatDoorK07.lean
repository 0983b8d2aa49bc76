/-
  Own, Append, TermAt, OwnK
-/
import Derived.Test.YtgjemmdhamkngaaGreatDoorK02
import Derived.Test.YtgjemmdhamkngaaGreatDoorK04
import Derived.WalkSpells
import Derived.WalkLawsBesides
import Derived.Lib.SmallJoins
import Derived.Maps.AppendAt
namespace Go.Proofs.YtgjemmdhamkngaaGreatDoor
open Go.RowKit
def OwnL (S : Nat → Prop) (w : World) (base : Nat) (l : List V) (v : Value) : Prop :=
 ∃ xs, w.ownsRow base 44 4 v l.length xs ∧ RepRow S w l xs.toArray
theorem OwnL.nil (S : Nat → Prop) (w : World) (base : Nat) : OwnL S w base [] (.slice none 0 0) :=
 ⟨[], World.ownsRow_nil _ _ _ _, fun i hi => by simp at hi⟩
theorem row_snoc {S : Nat → Prop} {w : World} {l : List V} {xs : List Value} (h : RepRow S w l xs.toArray) (hl : xs.length = l.length * 4) {x : V} {y0 y1 y2 y3 : Value} (hx : RepG S w x y0 y1 y2 y3) : RepRow S w (l ++ [x]) (xs ++ [y0, y1, y2, y3]).toArray := by
 intro i hi
 by_cases e : i < l.length
 ·obtain ⟨z0, z1, z2, z3, g0, g1, g2, g3, g⟩ := h i e
  refine ⟨z0, z1, z2, z3, ?_, ?_, ?_, ?_, by rw [List.getElem_append_left e]; exact g⟩ <;>
  ·simp only [List.getElem?_toArray] at *
   rw [List.getElem?_append_left (by omega)]
   assumption
 ·simp only [List.length_append, List.length_cons, List.length_nil] at hi
  obtain rfl : i = l.length := by omega
  refine ⟨y0, y1, y2, y3, ?_, ?_, ?_, ?_, by simpa using hx⟩ <;>
  ·simp only [List.getElem?_toArray]
   rw [List.getElem?_append_right (by omega)]
   simp [hl]
theorem OwnL.rep {S S' : Nat → Prop} {w : World} {base : Nat} {l : List V} {v : Value} (h : OwnL S w base l v) (hS : ∀ k, S k → S' k) (hg : ∀ g, base ≤ g → g < w.heap.size → S' g) (hb : l.length * 56 ≤ 140737488355328) : RepLG S' w l v := by
 obtain ⟨xs, ⟨hlen, hown⟩, hr⟩ := h
 rcases hown with ⟨rfl, hn⟩ | ⟨g, cap, cur, rfl, hbg, hh, hnc, hcm, hcs, htk⟩
 ·obtain rfl : l = [] := List.length_eq_zero_iff.1 hn
  exact ⟨none, 0, 0, 0, rfl, Nat.le_refl _, by simp, fun h => by omega, fun h => by simp at h, fun i hi => by simp at hi⟩
 ·have hr' : RepRow S w l cur := by
   intro i hi
   obtain ⟨z0, z1, z2, z3, g0, g1, g2, g3, gg⟩ := hr i hi
   have key : ∀ j v, j < l.length * 4 → xs.toArray[j]? = some v → cur[j]? = some v := by
    intro j v hj hv
    rw [List.getElem?_toArray, ← htk, List.getElem?_take, if_pos hj] at hv
    rw [← Array.getElem?_toList]; exact hv
   exact ⟨z0, z1, z2, z3, key _ _ (by omega) g0, key _ _ (by omega) g1, key _ _ (by omega) g2, key _ _ (by omega) g3, gg⟩
  exact (hr'.on hS (fun _ _ => rfl)).slice hh (hg g hbg (Array.getElem?_eq_some_iff.1 hh).1) hnc hb
theorem OwnL.on {S S' : Nat → Prop} {w w' : World} {base : Nat} {l : List V} {v : Value} (h : OwnL S w base l v) (hS : ∀ k, S k → S' k) (hw : ∀ k, S k → w'.heap[k]? = w.heap[k]?) (ho : ∀ k, base ≤ k → k < w.heap.size → v.ownBlock = some k → w'.heap[k]? = w.heap[k]?) : OwnL S' w' base l v := by
 obtain ⟨xs, ⟨hlen, hown⟩, hr⟩ := h
 refine ⟨xs, ⟨hlen, ?_⟩, hr.on hS hw⟩
 rcases hown with h | ⟨g, cap, cur, rfl, hbg, hh, r⟩
 ·exact .inl h
 ·exact .inr ⟨g, cap, cur, rfl, hbg, (ho g hbg (Array.getElem?_eq_some_iff.1 hh).1 rfl).trans hh, r⟩
theorem OwnL.stands {S S' : Nat → Prop} {w w' : World} {base : Nat} {l : List V} {v : Value} (h : OwnL S w base l v) (hS : ∀ k, S k → S' k ∧ k < w.heap.size) (hb : Below w.heap.size w w') : OwnL S' w' base l v :=
 h.on (fun k hk => (hS k hk).1) (fun k hk => hb.block k (hS k hk).2) (fun k _ hk _ => hb.block k hk)
end Go.Proofs.YtgjemmdhamkngaaGreatDoor
namespace Go.Proofs.YtgjemmdhamkngaaGreatDoor
open Go.RowKit
theorem RepLG.flat {S : Nat → Prop} {w : World} {l : List V} {a : Option Addr} {len cap : Nat} (h : RepLG S w l (.slice a len cap)) :
  len = l.length ∧ ∃ (b o : Nat) (xs : List Value), (0 < cap → a = some ⟨b, o, none⟩) ∧ xs.length = l.length * 4 ∧ (∀ j u, xs[j]? = some u → w.cell? ⟨b, o + j, none⟩ = some u) ∧ (∀ u ∈ xs, u.oneCell' = true) ∧ RepRow S w l xs.toArray := by
 obtain ⟨a', b, o, cap', e, h6, h7, h8, h9, h10⟩ := h
 cases e
 refine ⟨rfl, b, o, ?_⟩
 clear h6 h7 h9
 suffices H : ∀ n, n ≤ l.length → ∃ xs : List Value, xs.length = n * 4 ∧ (∀ j u, xs[j]? = some u → w.cell? ⟨b, o + j, none⟩ = some u) ∧ (∀ u ∈ xs, u.oneCell' = true) ∧ RepRow S w (l.take n) xs.toArray by
  obtain ⟨xs, h1, h2, h3, h4⟩ := H l.length (Nat.le_refl _)
  rw [List.take_length] at h4
  exact ⟨xs, h8, h1, h2, h3, h4⟩
 intro n
 induction n with
 | zero => exact fun _ => ⟨[], rfl, fun j u hj => by simp at hj, fun u hu => by simp at hu, fun i hi => by simp at hi⟩
 | succ n ih =>
  intro hn
  obtain ⟨xs, h1, h2, h3, h4⟩ := ih (by omega)
  obtain ⟨x0, x1, x2, x3, g0, g1, g2, g3, g⟩ := h10 n (by omega)
  obtain ⟨fa, fc, rfl, rfl, rfl, rfl⟩ := g.form
  refine ⟨xs ++ [.int .i64 l[n].kind, .int .i64 l[n].num, .string l[n].text, .slice fa l[n].list.length fc], by simp [h1]; omega, ?_, ?_, ?_⟩
  ·intro j u hj
   by_cases hj1 : j < xs.length
   ·rw [List.getElem?_append_left hj1] at hj; exact h2 j u hj
   ·rw [List.getElem?_append_right (by omega)] at hj
    have hj2 : j - xs.length < 4 := by
     have := (List.getElem?_eq_some_iff.1 hj).1
     simpa using this
    obtain ⟨t, rfl⟩ : ∃ t, j = n * 4 + t := ⟨j - n * 4, by omega⟩
    have ht : n * 4 + t - xs.length = t := by omega
    rw [ht] at hj hj2
    match t, hj2, hj with
    | 0, _, hj => simp at hj; subst hj; exact g0
    | 1, _, hj => simp at hj; subst hj; exact g1
    | 2, _, hj => simp at hj; subst hj; exact g2
    | 3, _, hj => simp at hj; subst hj; exact g3
  ·intro u hu
   rcases List.mem_append.1 hu with hu | hu
   ·exact h3 u hu
   ·simp at hu; rcases hu with rfl | rfl | rfl | rfl <;> rfl
  ·rw [List.take_succ_eq_append_getElem (by omega)]
   exact row_snoc h4 (by rw [h1]; simp; omega) g
theorem row_append {S : Nat → Prop} {w : World} {l : List V} {xs : List Value} (h : RepRow S w l xs.toArray) (hl : xs.length = l.length * 4) {m : List V} {ys : List Value} (h' : RepRow S w m ys.toArray) : RepRow S w (l ++ m) (xs ++ ys).toArray := by
 intro i hi
 by_cases e : i < l.length
 ·obtain ⟨z0, z1, z2, z3, g0, g1, g2, g3, g⟩ := h i e
  refine ⟨z0, z1, z2, z3, ?_, ?_, ?_, ?_, by rw [List.getElem_append_left e]; exact g⟩ <;>
  ·simp only [List.getElem?_toArray] at *
   rw [List.getElem?_append_left (by omega)]
   assumption
 ·have hi' : i - l.length < m.length := by simp at hi; omega
  obtain ⟨z0, z1, z2, z3, g0, g1, g2, g3, g⟩ := h' (i - l.length) hi'
  have e4 : i * 4 - xs.length = (i - l.length) * 4 := by omega
  refine ⟨z0, z1, z2, z3, ?_, ?_, ?_, ?_, by rw [List.getElem_append_right (by omega)]; exact g⟩ <;>
  ·simp only [List.getElem?_toArray] at *
   rw [List.getElem?_append_right (by omega)]
   first
    | (rw [show i * 4 - xs.length = (i - l.length) * 4 by omega]; assumption)
    | (rw [show i * 4 + 1 - xs.length = (i - l.length) * 4 + 1 by omega]; assumption)
    | (rw [show i * 4 + 2 - xs.length = (i - l.length) * 4 + 2 by omega]; assumption)
    | (rw [show i * 4 + 3 - xs.length = (i - l.length) * 4 + 3 by omega]; assumption)
theorem add_lit' (b o j : Nat) : ((⟨b, o, none⟩ : Addr).add j) = ⟨b, o + j, none⟩ := by unfold Addr.add; split <;> simp_all
theorem append_run (w : World) (base : Nat) (ty : TypeId) {S : Nat → Prop} {l m : List V} {v x : Value} (hl : OwnL S w base l v) (hm : RepLG S w m x) (hS : ∀ k, S k → k < w.heap.size ∧ v.ownBlock ≠ some k)
  (hlen : (l.length + m.length) * 56 ≤ 140737488355328) (hbase : base ≤ w.heap.size) :
  ∃ v' w', (Builtin.append_ #[31, 31] ty #[v, x]).run Tryz.prog w = .ok v' w' ∧ OwnL S w' base (l ++ m) v' ∧ w.grownBy w' v.ownBlock ∧ (v'.ownBlock = v.ownBlock ∨ v'.ownBlock = some w.heap.size) := by
 obtain ⟨i0, hi, hz0, hz1, hz2⟩ := info_parts infoValue
 obtain ⟨xs, hown, hrow⟩ := hl
 obtain ⟨a, b, o, cap, rfl, -⟩ := id hm
 obtain ⟨-, b, o, ys, hx1, hx2, hx3, hx4, hx5⟩ := RepLG.flat hm
 have fin : ∀ v' w', w'.ownsRow base 44 4 v' (l.length + m.length) (xs ++ ys) → w.grownBy w' v.ownBlock → OwnL S w' base (l ++ m) v' := fun v' w' h1 h2 =>
  ⟨xs ++ ys, by rw [List.length_append]; exact h1, (row_append hrow hown.1 hx5).on (fun k hk => hk) (fun k hk => h2.block k (hS k hk).1 (fun e => (hS k hk).2 e.symm))⟩
 rcases a with _ | ad
 ·have hm0 : m = [] := by
   by_cases hc : 0 < cap
   ·have := hx1 hc; cases this
   ·obtain ⟨a', b', o', cap', e', h6, _⟩ := hm
    cases e'
    exact List.length_eq_zero_iff.1 (by omega)
  subst hm0
  have hys : ys = [] := List.length_eq_zero_iff.1 (by simpa using hx2)
  subst hys
  have hc0 : cap = 0 := by
   by_cases hc : 0 < cap
   ·have := hx1 hc; cases this
   ·omega
  subst hc0
  have hrun := run_append_owned_none (P := Tryz.prog) (w := w) base 31 ty 44 i0 4 Tryz.underlying31 hi v l.length xs hown
  exact ⟨v, w, hrun, fin v w (by simpa using hown) (World.grownBy.refl w _), World.grownBy.refl w _, .inl rfl⟩
 ·have hnews : ∀ j u, ys[j]? = some u → w.cell? (ad.add j) = some u := fun j u hj => by
   by_cases hc : 0 < cap
   ·have := Option.some.inj (hx1 hc)
    subst this
    rw [add_lit']; exact hx3 j u hj
   ·obtain ⟨a', b', o', cap', e', h6, _⟩ := hm
    cases e'
    have : ys = [] := List.length_eq_zero_iff.1 (by rw [hx2]; omega)
    rw [this] at hj; simp at hj
  obtain ⟨v', w', hrun, h1, h2, _, h5⟩ := run_append_own_at (P := Tryz.prog) w base 31 ty 44 i0 _ 4 56 Tryz.underlying31 hi hz0 hz1 hz2 rfl (by decide) v l.length xs hown ad m.length cap ys hx2 hnews hx4 (by unfold maxLen; omega) hlen hbase
  exact ⟨v', w', hrun, fin v' w' h1 h2, h2, h5⟩
theorem wpList_append_by {P : Program} {w w' : World} {ops : Array Oper} {rest : List Oper} {o : Oper} {a : Act} {Q : Exit → Act → World → Prop} (hgd : o.guard = none) (s x : Operand) (t : TypeId)
  (ho : o.op = .call { callee := .builtin .append, args := #[s, x], argTypes := #[t, t] }) {v xv v' : Value} (hs : a.eval s = v) (hx : a.eval x = xv) (hrun : (Builtin.append_ #[t, t] o.type #[v, xv]).run P w = .ok v' w')
  (h : wpList P ops Q rest (a.put o.dst v') w') : wpList P ops Q (o :: rest) a w := by
 refine wpList_plain hgd fun K hK => ?_
 unfold Oper.wp execOp
 simp only [ho, resolve, invoke, builtin, Sem.run_bind, Sem.run_pure, Result.andThen_ok, List.map_toArray, List.map_cons, List.map_nil, hs, hx, hrun]
 exact hK _ _ h
end Go.Proofs.YtgjemmdhamkngaaGreatDoor
namespace Go.Proofs.YtgjemmdhamkngaaGreatDoor
open Go.RowKit
theorem RepLi.form {S : Nat → Prop} {w : World} {x : Li} {c0 c1 c2 : Value} (h : RepLi S w x c0 c1 c2) : ∃ (ga : Option Addr) (gc : Nat), c0 = .int .i64 x.kind ∧ c1 = .string x.name ∧ c2 = .slice ga x.args.length gc := by
 obtain ⟨h0, h1, -, -, h4⟩ := h
 obtain ⟨ga, gc, e⟩ := SlG.form h4
 exact ⟨ga, gc, h0, h1, e⟩
theorem RepLis.at {S : Nat → Prop} {w : World} {l : List Li} {a : Option Addr} {len cap : Nat} (h : RepLis S w l (.slice a len cap)) (i : Nat) (hi : i < l.length) :
  len = l.length ∧ l.length ≤ cap ∧ ∃ (b o : Nat) (ga : Option Addr) (gc : Nat), a = some ⟨b, o, none⟩ ∧ S b ∧ w.cell? ⟨b, o + i * 3, none⟩ = some (.int .i64 l[i].kind) ∧ w.cell? ⟨b, o + i * 3 + 1, none⟩ = some (.string l[i].name) ∧ w.cell? ⟨b, o + i * 3 + 2, none⟩ = some (.slice ga l[i].args.length gc) ∧ RepLi S w l[i] (.int .i64 l[i].kind) (.string l[i].name) (.slice ga l[i].args.length gc) := by
 obtain ⟨h1, h2, b, o, h3, h4, c, hc, hr⟩ := SlG.at h i hi
 obtain ⟨ga, gc, e0, e1, e2⟩ := hr.form
 rw [e0, e1, e2] at hr
 exact ⟨h1, h2, b, o, ga, gc, h3, h4, by rw [← e0]; exact hc 0 (by omega), by rw [← e1]; exact hc 1 (by omega), by rw [← e2]; exact hc 2 (by omega), hr⟩
theorem RepDe.form {S : Nat → Prop} {w : World} {x : De} {c0 c1 : Value} (h : RepDe S w x c0 c1) : c0 = .string x.name ∧ c1 = .int .i64 x.arity := by
 exact ⟨h.1, h.2.1⟩
theorem RepDes.at {S : Nat → Prop} {w : World} {l : List De} {a : Option Addr} {len cap : Nat} (h : RepDes S w l (.slice a len cap)) (i : Nat) (hi : i < l.length) :
  len = l.length ∧ l.length ≤ cap ∧ ∃ (b o : Nat) , a = some ⟨b, o, none⟩ ∧ S b ∧ w.cell? ⟨b, o + i * 2, none⟩ = some (.string l[i].name) ∧ w.cell? ⟨b, o + i * 2 + 1, none⟩ = some (.int .i64 l[i].arity) ∧ RepDe S w l[i] (.string l[i].name) (.int .i64 l[i].arity) := by
 obtain ⟨h1, h2, b, o, h3, h4, c, hc, hr⟩ := SlG.at h i hi
 obtain ⟨e0, e1⟩ := hr.form
 rw [e0, e1] at hr
 exact ⟨h1, h2, b, o, h3, h4, by rw [← e0]; exact hc 0 (by omega), by rw [← e1]; exact hc 1 (by omega), hr⟩
theorem RepFa.form {S : Nat → Prop} {w : World} {x : Fa} {c0 c1 : Value} (h : RepFa S w x c0 c1) : ∃ (ga : Option Addr) (gc : Nat), c0 = .string x.name ∧ c1 = .slice ga x.args.length gc := by
 obtain ⟨ga, -, -, gc, e, -⟩ := id h.2.2
 exact ⟨ga, gc, h.1, e⟩
theorem RepFas.at {S : Nat → Prop} {w : World} {l : List Fa} {a : Option Addr} {len cap : Nat} (h : RepFas S w l (.slice a len cap)) (i : Nat) (hi : i < l.length) :
  len = l.length ∧ l.length ≤ cap ∧ ∃ (b o : Nat) (ga : Option Addr) (gc : Nat), a = some ⟨b, o, none⟩ ∧ S b ∧ w.cell? ⟨b, o + i * 2, none⟩ = some (.string l[i].name) ∧ w.cell? ⟨b, o + i * 2 + 1, none⟩ = some (.slice ga l[i].args.length gc) ∧ RepFa S w l[i] (.string l[i].name) (.slice ga l[i].args.length gc) := by
 obtain ⟨h1, h2, b, o, h3, h4, c, hc, hr⟩ := SlG.at h i hi
 obtain ⟨ga, gc, e0, e1⟩ := hr.form
 rw [e0, e1] at hr
 exact ⟨h1, h2, b, o, ga, gc, h3, h4, by rw [← e0]; exact hc 0 (by omega), by rw [← e1]; exact hc 1 (by omega), hr⟩
theorem RepRu.form {S : Nat → Prop} {w : World} {x : Ru} {c0 c1 c2 c3 c4 c5 : Value} (h : RepRu S w x c0 c1 c2 c3 c4 c5) : ∃ (fa : Option Addr) (fc : Nat) (ga : Option Addr) (gc : Nat), c0 = .string x.label ∧ c1 = .string x.head ∧ c2 = .slice fa x.args.length fc ∧ c3 = .string x.agg ∧ c4 = .int .i64 x.at' ∧ c5 = .slice ga x.body.length gc := by
 obtain ⟨h0, h1, h3, h4, -, -, -, -, h8, h9⟩ := h
 obtain ⟨fa, fc, e⟩ := SlG.form h8
 obtain ⟨ga, gc, e'⟩ := SlG.form h9
 exact ⟨fa, fc, ga, gc, h0, h1, e, h3, h4, e'⟩
theorem RepRus.at {S : Nat → Prop} {w : World} {l : List Ru} {a : Option Addr} {len cap : Nat} (h : RepRus S w l (.slice a len cap)) (i : Nat) (hi : i < l.length) :
  len = l.length ∧ l.length ≤ cap ∧ ∃ (b o : Nat) (fa : Option Addr) (fc : Nat) (ga : Option Addr) (gc : Nat), a = some ⟨b, o, none⟩ ∧ S b ∧ w.cell? ⟨b, o + i * 6, none⟩ = some (.string l[i].label) ∧ w.cell? ⟨b, o + i * 6 + 1, none⟩ = some (.string l[i].head) ∧ w.cell? ⟨b, o + i * 6 + 2, none⟩ = some (.slice fa l[i].args.length fc) ∧ w.cell? ⟨b, o + i * 6 + 3, none⟩ = some (.string l[i].agg) ∧ w.cell? ⟨b, o + i * 6 + 4, none⟩ = some (.int .i64 l[i].at') ∧ w.cell? ⟨b, o + i * 6 + 5, none⟩ = some (.slice ga l[i].body.length gc) ∧ RepRu S w l[i] (.string l[i].label) (.string l[i].head) (.slice fa l[i].args.length fc) (.string l[i].agg) (.int .i64 l[i].at') (.slice ga l[i].body.length gc) := by
 obtain ⟨h1, h2, b, o, h3, h4, c, hc, hr⟩ := SlG.at h i hi
 obtain ⟨fa, fc, ga, gc, e0, e1, e2, e3, e4, e5⟩ := hr.form
 rw [e0, e1, e2, e3, e4, e5] at hr
 exact ⟨h1, h2, b, o, fa, fc, ga, gc, h3, h4, by rw [← e0]; exact hc 0 (by omega), by rw [← e1]; exact hc 1 (by omega), by rw [← e2]; exact hc 2 (by omega), by rw [← e3]; exact hc 3 (by omega), by rw [← e4]; exact hc 4 (by omega), by rw [← e5]; exact hc 5 (by omega), hr⟩
end Go.Proofs.YtgjemmdhamkngaaGreatDoor
namespace Go.Proofs.YtgjemmdhamkngaaGreatDoor
open Go.RowKit
structure Kd (α : Type) where
 T : TypeId
 ST : TypeId
 n : Nat
 bytes : Nat
 R : (Nat → Prop) → World → α → (Nat → Value) → Prop
 pos : 0 < n
 few : bytes ≤ 1000
 on : ∀ {S S' : Nat → Prop} {w w' : World} {x : α} {c : Nat → Value}, (∀ k, S k → S' k) → (∀ k, S k → w'.heap[k]? = w.heap[k]?) → R S w x c → R S' w' x c
 one : ∀ {S : Nat → Prop} {w : World} {x : α} {c : Nat → Value}, R S w x c → ∀ j, j < n → (c j).oneCell' = true
 und : Tryz.prog.underlying ST = some (.slice T)
 info : ∃ (i : TypeInfo) (z : Value), Tryz.prog.info? T = some i ∧ i.zero = some z ∧ i.size = n ∧ i.bytes = bytes ∧ z.cells.size = n
theorem ownsRow_on {w w' : World} {base : Nat} {e : TypeId} {n k : Nat} {v : Value} {xs : List Value} (h : w.ownsRow base e n v k xs) (hw : ∀ g, base ≤ g → g < w.heap.size → v.ownBlock = some g → w'.heap[g]? = w.heap[g]?) : w'.ownsRow base e n v k xs := by
 refine ⟨h.1, ?_⟩
 rcases h.2 with hn | ⟨g, cap, cur, hv, hb, hg, rest⟩
 ·exact .inl hn
 ·subst hv
  exact .inr ⟨g, cap, cur, rfl, hb, (hw g hb (Array.getElem?_eq_some_iff.1 hg).1 rfl).trans hg, rest⟩
theorem ownsRow_down {w : World} {base base' : Nat} {e : TypeId} {n k : Nat} {v : Value} {xs : List Value} (h : w.ownsRow base e n v k xs) (hb : base' ≤ base) : w.ownsRow base' e n v k xs := by
 refine ⟨h.1, ?_⟩
 rcases h.2 with hn | ⟨g, cap, cur, hv, hg, rest⟩
 ·exact .inl hn
 ·exact .inr ⟨g, cap, cur, hv, Nat.le_trans hb hg, rest⟩
section
variable {α : Type} (K : Kd α)
def OwnK (S : Nat → Prop) (w : World) (base : Nat) (l : List α) (v : Value) : Prop :=
 ∃ xs, w.ownsRow base K.T K.n v l.length xs ∧ ∀ i (h : i < l.length), ∃ c : Nat → Value, (∀ j, j < K.n → xs[i * K.n + j]? = some (c j)) ∧ K.R S w l[i] c
def MineK (w : World) (base : Nat) (l : List α) (v : Value) : Prop := OwnK K (fun b => base ≤ b ∧ b < w.heap.size ∧ v.ownBlock ≠ some b) w base l v
variable {K}
theorem MineK.nil (w : World) (base : Nat) : MineK K w base [] (.slice none 0 0) := ⟨[], World.ownsRow_nil _ _ _ _, fun i hi => by simp at hi⟩
theorem OwnK.form {S : Nat → Prop} {w : World} {base : Nat} {l : List α} {v : Value} (h : OwnK K S w base l v) : ∃ a cap, v = .slice a l.length cap := by
 obtain ⟨xs, ⟨-, ho⟩, -⟩ := h
 rcases ho with ⟨rfl, hn⟩ | ⟨g, cap, cur, rfl, -⟩
 ·exact ⟨none, 0, by rw [hn]⟩
 ·exact ⟨_, _, rfl⟩
theorem OwnK.lies {S : Nat → Prop} {w : World} {base : Nat} {l : List α} {v : Value} (h : OwnK K S w base l v) (k : Nat) (hk : v.ownBlock = some k) : base ≤ k ∧ k < w.heap.size := by
 obtain ⟨xs, ⟨_, hown⟩, _⟩ := h
 rcases hown with ⟨rfl, hn⟩ | ⟨g, cap, cur, rfl, hbg, hh, _⟩
 ·simp [Value.ownBlock] at hk
 ·simp [Value.ownBlock] at hk
  subst hk
  exact ⟨hbg, (Array.getElem?_eq_some_iff.1 hh).1⟩
theorem OwnK.on {S S' : Nat → Prop} {w w' : World} {base : Nat} {l : List α} {v : Value} (h : OwnK K S w base l v) (hS : ∀ k, S k → S' k) (hw : ∀ k, S k → w'.heap[k]? = w.heap[k]?) (ho : ∀ k, base ≤ k → k < w.heap.size → v.ownBlock = some k → w'.heap[k]? = w.heap[k]?) : OwnK K S' w' base l v := by
 obtain ⟨xs, hown, hr⟩ := h
 refine ⟨xs, ownsRow_on hown ho, fun i hi => ?_⟩
 obtain ⟨c, hc, hR⟩ := hr i hi
 exact ⟨c, hc, K.on hS hw hR⟩
theorem MineK.kept {w w' : World} {base : Nat} {l : List α} {v : Value} (h : MineK K w base l v) (hsz : w.heap.size ≤ w'.heap.size) (hw : ∀ k, base ≤ k → k < w.heap.size → w'.heap[k]? = w.heap[k]?) : MineK K w' base l v :=
 OwnK.on h (fun k hk => ⟨hk.1, by omega, hk.2.2⟩) (fun k hk => hw k hk.1 hk.2.1) (fun k h1 h2 _ => hw k h1 h2)
theorem MineK.stands {w w' : World} {base : Nat} {l : List α} {v : Value} (h : MineK K w base l v) (hb : Below w.heap.size w w') : MineK K w' base l v :=
 h.kept hb.size (fun k _ hk => hb.block k hk)
theorem MineK.far {w : World} {base : Nat} {l : List α} {v : Value} (h : MineK K w base l v) {p : Addr} (hp : p.block < base) (c : Value) : MineK K (w.setCell p c) base l v :=
 h.kept (by simp) (fun k hk _ => Below.heap_setCell _ _ _ _ (by omega))
theorem MineK.down {w : World} {base base' : Nat} {l : List α} {v : Value} (h : MineK K w base l v) (hb : base' ≤ base) : MineK K w base' l v := by
 obtain ⟨xs, hown, hr⟩ := h
 refine ⟨xs, ownsRow_down hown hb, fun i hi => ?_⟩
 obtain ⟨c, hc, hR⟩ := hr i hi
 exact ⟨c, hc, K.on (fun k hk => ⟨by omega, hk.2⟩) (fun _ _ => rfl) hR⟩
theorem MineK.slg {S' : Nat → Prop} {w : World} {base : Nat} {l : List α} {v : Value} (h : MineK K w base l v) (hS : ∀ k, base ≤ k → k < w.heap.size → S' k) (hl : l.length ≤ 100000) : SlG S' w K.n K.bytes (K.R S' w) l v := by
 obtain ⟨xs, ⟨hlen, hown⟩, hr⟩ := h
 have hby : l.length * K.bytes ≤ 140737488355328 := by
  have := Nat.mul_le_mul hl K.few
  omega
 rcases hown with ⟨rfl, hn⟩ | ⟨g, cap, cur, rfl, hbg, hh, hnc, hcm, hcs, htk⟩
 ·obtain rfl : l = [] := List.length_eq_zero_iff.1 hn
  exact ⟨none, 0, 0, 0, rfl, Nat.le_refl _, by simp, fun h => by omega, fun h => by simp at h, fun i hi => by simp at hi⟩
 ·have hgl := (Array.getElem?_eq_some_iff.1 hh).1
  refine ⟨_, g, 0, cap, rfl, hnc, hby, fun _ => rfl, fun _ => hS g hbg hgl, fun i hi => ?_⟩
  obtain ⟨c, hc, hR⟩ := hr i hi
  refine ⟨c, fun j hj => ?_, K.on (fun k hk => hS k hk.1 hk.2.1) (fun _ _ => rfl) hR⟩
  have h1 := hc j hj
  rw [← htk, List.getElem?_take] at h1
  have hlt : i * K.n + j < l.length * K.n := by
   have : (i + 1) * K.n ≤ l.length * K.n := Nat.mul_le_mul_right _ hi
   rw [Nat.succ_mul] at this; omega
  rw [if_pos hlt] at h1
  rw [show 0 + i * K.n + j = i * K.n + j by omega]
  exact cell_of_block' hh _ (by rw [← Array.getElem?_toList]; exact h1)
theorem own_append {w : World} {base : Nat} {L : List α} {lv : Value} {y : α} {c : Nat → Value} {cs : Array Value} {b : Nat} {t : TypeId} {fz : Nat × Nat} (hown : MineK K w base L lv) (hbase : base ≤ w.heap.size) (hlen : L.length ≤ 1000)
  (hb : w.heap[b]? = some (.cells cs t fz)) (hcs : cs.size = K.n) (hc : ∀ j, j < K.n → cs[j]? = some (c j)) (hrep : K.R (fun b' => base ≤ b' ∧ b' < w.heap.size ∧ lv.ownBlock ≠ some b') w y c) (ty : TypeId) :
  ∃ (a : Option Addr) (cap : Nat) (w6 : World), (Builtin.append_ #[K.ST, K.ST] ty #[lv, .slice (some ⟨b, 0, none⟩) 1 1]).run Tryz.prog w = .ok (.slice a (L.length + 1) cap) w6 ∧
   MineK K w6 base (L ++ [y]) (.slice a (L.length + 1) cap) ∧ w.grownBy w6 lv.ownBlock := by
 obtain ⟨i0, z, hi, hz0, hz1, hz2, hz3⟩ := K.info
 obtain ⟨xs, hrow, hr⟩ := hown
 have hby : (L.length + 1) * K.bytes ≤ 140737488355328 := by
  have := Nat.mul_le_mul (show L.length + 1 ≤ 1001 by omega) K.few
  omega
 obtain ⟨v', w6, hrun, h1, h2, _, h5⟩ := run_append_own_at (P := Tryz.prog) w base K.ST ty K.T i0 z K.n K.bytes K.und hi hz0 hz1 hz2 hz3 K.pos lv L.length xs hrow ⟨b, 0, none⟩ 1 1 cs.toList (by simp [hcs])
  (fun j u hj => by
   have e : ((⟨b, 0, none⟩ : Addr).add j) = ⟨b, 0 + j, none⟩ := add_lit' _ _ _
   rw [e, Nat.zero_add]
   exact cell_of_block' hb u (by rw [← Array.getElem?_toList]; exact hj))
  (fun u hu => by
   obtain ⟨j, hj, rfl⟩ := List.getElem_of_mem hu
   have hjn : j < K.n := by rw [← hcs]; simpa using hj
   have h1 := hc j hjn
   have h2 : cs[j]? = some (cs.toList[j]) := by rw [← Array.getElem?_toList]; exact List.getElem?_eq_getElem hj
   rw [Option.some.inj (h2.symm.trans h1)]
   exact K.one hrep j hjn) (by unfold maxLen; omega) hby hbase
 have hsub : ∀ k, (base ≤ k ∧ k < w.heap.size ∧ lv.ownBlock ≠ some k) → (base ≤ k ∧ k < w6.heap.size ∧ v'.ownBlock ≠ some k) := fun k hk => by
  have := h2.size
  refine ⟨hk.1, by omega, fun e => ?_⟩
  rcases h5 with h5 | h5
  ·exact hk.2.2 (h5.symm.trans e)
  ·rw [h5] at e; have := Option.some.inj e; omega
 have hsame : ∀ k, (base ≤ k ∧ k < w.heap.size ∧ lv.ownBlock ≠ some k) → w6.heap[k]? = w.heap[k]? := fun k hk => h2.block k hk.2.1 (fun e => hk.2.2 e.symm)
 have hm : MineK K w6 base (L ++ [y]) v' := by
  refine ⟨xs ++ cs.toList, by rw [List.length_append]; exact h1, fun i hi => ?_⟩
  by_cases hlt : i < L.length
  ·obtain ⟨c', hc', hR⟩ := hr i hlt
   refine ⟨c', fun j hj => ?_, by rw [List.getElem_append_left hlt]; exact K.on hsub hsame hR⟩
   have hil : i * K.n + j < xs.length := by
    rw [hrow.1]
    have : (i + 1) * K.n ≤ L.length * K.n := Nat.mul_le_mul_right _ hlt
    rw [Nat.succ_mul] at this; omega
   rw [List.getElem?_append_left hil]; exact hc' j hj
  ·obtain rfl : i = L.length := by simp at hi; omega
   refine ⟨c, fun j hj => ?_, by rw [List.getElem_append_right (Nat.le_refl _)]; simpa using K.on hsub hsame hrep⟩
   rw [List.getElem?_append_right (by rw [hrow.1]; omega), hrow.1, show L.length * K.n + j - L.length * K.n = j by omega, Array.getElem?_toList]
   exact hc j hj
 obtain ⟨a, cap, rfl⟩ := OwnK.form hm
 rw [List.length_append] at hrun hm
 exact ⟨a, cap, w6, hrun, hm, h2⟩
theorem mk_append {w4 w5 : World} {base : Nat} {L : List α} {lv : Value} {y : α} {c : Nat → Value} {cs : Array Value} (hown : MineK K w4 base L lv) (hbase : base ≤ w4.heap.size) (hlen : L.length ≤ 1000)
  (hb : Below w4.heap.size w4 w5) (hcs : cs.size = K.n) (hc : ∀ j, j < K.n → cs[j]? = some (c j)) (hrep : K.R (fun b => w4.heap.size ≤ b ∧ b < w5.heap.size) w5 y c) (ty : TypeId) :
  ∃ (a : Option Addr) (cap : Nat) (w6 : World), (Builtin.append_ #[K.ST, K.ST] ty #[lv, .slice (some ⟨w5.heap.size, 0, none⟩) 1 1]).run Tryz.prog (w5.alloc (.cells cs K.T)) = .ok (.slice a (L.length + 1) cap) w6 ∧
   MineK K w6 base (L ++ [y]) (.slice a (L.length + 1) cap) ∧ Below base w4 w6 ∧ (∀ k, k < w4.heap.size → lv.ownBlock ≠ some k → w6.heap[k]? = w4.heap[k]?) := by
 have hbW := Below.step hb (below_alloc w5 (.cells cs K.T))
 have hsW := World.size_alloc w5 (.cells cs K.T)
 have hnew := alloc_new' w5 (.cells cs K.T)
 have hold : ∀ b, b < w5.heap.size → (w5.alloc (.cells cs K.T)).heap[b]? = w5.heap[b]? := fun b hb => Below.heap_alloc _ _ _ hb
 generalize w5.alloc (.cells cs K.T) = W at *
 have hs5 := hb.size
 have hm := hown.stands hbW
 obtain ⟨a, cap, w6, hrun, ho, hg⟩ := own_append hm (by omega) hlen hnew hcs hc (K.on (fun k hk => ⟨by omega, by omega, fun e => by have := (OwnK.lies hown k e).2; omega⟩) (fun k hk => hold k hk.2) hrep) ty
 have hgs := hg.size
 refine ⟨a, cap, w6, hrun, ho, ?_, ?_⟩
 ·refine ⟨hg.os.trans hbW.os, hg.tape.trans hbW.tape, hg.output.trans hbW.output, by omega, fun k hk => ?_⟩
  exact (hg.block k (by omega) (fun e => by have := (OwnK.lies hown k e.symm).1; omega)).trans (hbW.block k (by omega))
 ·intro k hk hne
  exact (hg.block k (by omega) (fun e => hne e.symm)).trans (hbW.block k hk)
end
theorem info_of {T : TypeId} {n bytes : Nat} (h : (Tryz.prog.info? T).map (fun i => (i.zero.map (fun z => z.cells.size), i.size, i.bytes)) = some (some n, n, bytes)) : ∃ (i : TypeInfo) (z : Value), Tryz.prog.info? T = some i ∧ i.zero = some z ∧ i.size = n ∧ i.bytes = bytes ∧ z.cells.size = n := by
 match hi : Tryz.prog.info? T, h with
 | some i, h =>
  simp only [Option.map_some, Option.some.injEq, Prod.mk.injEq] at h
  obtain ⟨h1, h2, h3⟩ := h
  match hz : i.zero, h1 with
  | some z, h1 => exact ⟨i, z, rfl, hz, h2, h3, by simpa using h1⟩
def kdTm : Kd Tm where
 T := 46
 ST := 34
 n := 7
 bytes := 104
 R := fun S w x c => RepM S w x (c 0) (c 1) (c 2) (c 3) (c 4) (c 5) (c 6)
 pos := by omega
 few := by omega
 on := fun hS hw h => RepM.on hS hw _ h
 one := fun h j hj => by
  obtain ⟨fa, fc, ga, gc, e0, e1, e2, e3, e4, e5, e6⟩ := h.form
  match j, hj with
  | 0, _ => rw [e0]; rfl
  | 1, _ => rw [e1]; rfl
  | 2, _ => rw [e2]; rfl
  | 3, _ => rw [e3]; rfl
  | 4, _ => rw [e4]; rfl
  | 5, _ => rw [e5]; rfl
  | 6, _ => rw [e6]; rfl
 und := Tryz.underlying34
 info := info_of (by kernel_rfl)
def kdLi : Kd Li where
 T := 41
 ST := 35
 n := 3
 bytes := 48
 R := fun S w x c => RepLi S w x (c 0) (c 1) (c 2)
 pos := by omega
 few := by omega
 on := fun hS hw h => RepLi.on hS hw h
 one := fun h j hj => by
  obtain ⟨ga, gc, e0, e1, e2⟩ := h.form
  match j, hj with
  | 0, _ => rw [e0]; rfl
  | 1, _ => rw [e1]; rfl
  | 2, _ => rw [e2]; rfl
 und := Tryz.underlying35
 info := info_of (by kernel_rfl)
def kdRu : Kd Ru where
 T := 37
 ST := 24
 n := 6
 bytes := 104
 R := fun S w x c => RepRu S w x (c 0) (c 1) (c 2) (c 3) (c 4) (c 5)
 pos := by omega
 few := by omega
 on := fun hS hw h => RepRu.on hS hw h
 one := fun h j hj => by
  obtain ⟨fa, fc, ga, gc, e0, e1, e2, e3, e4, e5⟩ := h.form
  match j, hj with
  | 0, _ => rw [e0]; rfl
  | 1, _ => rw [e1]; rfl
  | 2, _ => rw [e2]; rfl
  | 3, _ => rw [e3]; rfl
  | 4, _ => rw [e4]; rfl
  | 5, _ => rw [e5]; rfl
 und := Tryz.underlying24
 info := info_of (by kernel_rfl)
def kdDe : Kd De where
 T := 57
 ST := 22
 n := 2
 bytes := 24
 R := fun S w x c => RepDe S w x (c 0) (c 1)
 pos := by omega
 few := by omega
 on := fun _ _ h => h
 one := fun h j hj => by
  obtain ⟨e0, e1⟩ := h.form
  match j, hj with
  | 0, _ => rw [e0]; rfl
  | 1, _ => rw [e1]; rfl
 und := Tryz.underlying22
 info := info_of (by kernel_rfl)
def kdFa : Kd Fa where
 T := 33
 ST := 23
 n := 2
 bytes := 40
 R := fun S w x c => RepFa S w x (c 0) (c 1)
 pos := by omega
 few := by omega
 on := fun hS hw h => RepFa.on hS hw h
 one := fun h j hj => by
  obtain ⟨ga, gc, e0, e1⟩ := h.form
  match j, hj with
  | 0, _ => rw [e0]; rfl
  | 1, _ => rw [e1]; rfl
 und := Tryz.underlying23
 info := info_of (by kernel_rfl)
def kdV : Kd V where
 T := 44
 ST := 31
 n := 4
 bytes := 56
 R := fun S w x c => RepG S w x (c 0) (c 1) (c 2) (c 3)
 pos := by omega
 few := by omega
 on := fun hS hw h => RepG.on hS hw _ h
 one := fun h j hj => by
  obtain ⟨ga, gc, e0, e1, e2, e3⟩ := h.form
  match j, hj with
  | 0, _ => rw [e0]; rfl
  | 1, _ => rw [e1]; rfl
  | 2, _ => rw [e2]; rfl
  | 3, _ => rw [e3]; rfl
 und := Tryz.underlying31
 info := info_of (by kernel_rfl)
end Go.Proofs.YtgjemmdhamkngaaGreatDoor
