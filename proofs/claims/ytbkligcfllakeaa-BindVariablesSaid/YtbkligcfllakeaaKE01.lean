/-
  Shelf, Base, Heap, Own, Append, Term, TermAt, Boxed
-/
import Derived.Test.YtbkligcfllakeaaProg
import Derived.Shelf.Small.Wraps
import Derived.Shelf.Strconv.Itoa0
import Derived.Lib.Hide
import Derived.WalkKit
import Derived.WalkSpells
import Derived.WalkLawsBesides
import Derived.Lib.SmallJoins
import Derived.Maps.AppendAt
namespace Go.Proofs
open Go.Shelf
def Try.lays122_ren : Go.Shelf.Ren := ⟨fun | 122 => 41 | 215 => 69 | n => n, fun | 3 => 3 | 4 => 4 | n => n, fun | n => n⟩
theorem Try.lays122 : Go.Proofs.Lays.n122 Try.prog Try.lays122_ren := {
 mixed := by kernel_rfl
 f122 := Try.func41.trans (congrArg some (by kernel_rfl))
 f215 := Try.func69.trans (congrArg some (by kernel_rfl))
 t3 := Try.underlying3
 a3 := Try.isAgg3
 z3 := Try.sizeOf3
 v3 := Try.zeroValue3
 t4 := Try.underlying4
 a4 := Try.isAgg4
 z4 := Try.sizeOf4
 v4 := Try.zeroValue4 }
open Go.RowKit in
theorem Try.cmp_Compare_int (x y : Int) (w : World) :
  Calls Try.prog 41 #[.int .i64 x, .int .i64 y] w fun e w' => e = .returned (.int .i64 (Lib.compareInt x y)) ∧ w' = w := Any.cmp_Compare_int Try.lays122 x y w
end Go.Proofs
namespace Go.Proofs.Ytbkligcfllakeaa
open Go.RowKit
inductive V where
 | mk (k n : Int) (s : ByteArray) (l : List V) : V
namespace V
def kind : V → Int | mk k _ _ _ => k
def num : V → Int | mk _ n _ _ => n
def text : V → ByteArray | mk _ _ s _ => s
def list : V → List V | mk _ _ _ l => l
end V
def I64 (n : Int) : Prop := -9223372036854775808 ≤ n ∧ n ≤ 9223372036854775807
def RepG (S : Nat → Prop) (w : World) : V → Value → Value → Value → Value → Prop
 | .mk k n s l, c0, c1, c2, c3 => c0 = .int .i64 k ∧ c1 = .int .i64 n ∧ c2 = .string s ∧ I64 k ∧ I64 n ∧ s.size ≤ maxLen ∧
   ∃ (a : Option Addr) (b o cap : Nat), c3 = .slice a l.length cap ∧ l.length ≤ cap ∧ l.length * 56 ≤ 140737488355328 ∧ (0 < cap → a = some ⟨b, o, none⟩) ∧ (0 < l.length → S b) ∧
    ∀ i (h : i < l.length), ∃ x0 x1 x2 x3 : Value, w.cell? ⟨b, o + i * 4, none⟩ = some x0 ∧ w.cell? ⟨b, o + i * 4 + 1, none⟩ = some x1 ∧ w.cell? ⟨b, o + i * 4 + 2, none⟩ = some x2 ∧
     w.cell? ⟨b, o + i * 4 + 3, none⟩ = some x3 ∧ RepG S w l[i] x0 x1 x2 x3
 termination_by x => SizeOf.sizeOf x
 decreasing_by
  have := List.sizeOf_lt_of_mem (List.getElem_mem h);simp only [V.mk.sizeOf_spec]
  omega
def RepLG (S : Nat → Prop) (w : World) (l : List V) (v : Value) : Prop :=
 ∃ (a : Option Addr) (b o cap : Nat), v = .slice a l.length cap ∧ l.length ≤ cap ∧ l.length * 56 ≤ 140737488355328 ∧ (0 < cap → a = some ⟨b, o, none⟩) ∧ (0 < l.length → S b) ∧
  ∀ i (h : i < l.length), ∃ x0 x1 x2 x3 : Value, w.cell? ⟨b, o + i * 4, none⟩ = some x0 ∧ w.cell? ⟨b, o + i * 4 + 1, none⟩ = some x1 ∧ w.cell? ⟨b, o + i * 4 + 2, none⟩ = some x2 ∧
   w.cell? ⟨b, o + i * 4 + 3, none⟩ = some x3 ∧ RepG S w l[i] x0 x1 x2 x3
def RepV (B : Nat) (w : World) (x : V) (c0 c1 c2 c3 : Value) : Prop := RepG (fun b => b < B) w x c0 c1 c2 c3
def RepL (B : Nat) (w : World) (l : List V) (v : Value) : Prop := RepLG (fun b => b < B) w l v
theorem repG_mk {S : Nat → Prop} {w : World} {k n : Int} {s : ByteArray} {l : List V} {c0 c1 c2 c3 : Value} :
  RepG S w (.mk k n s l) c0 c1 c2 c3 ↔ (c0 = .int .i64 k ∧ c1 = .int .i64 n ∧ c2 = .string s ∧ I64 k ∧ I64 n ∧ s.size ≤ maxLen ∧ RepLG S w l c3) := by
 rw [RepG]; rfl
theorem repV_mk {B : Nat} {w : World} {k n : Int} {s : ByteArray} {l : List V} {c0 c1 c2 c3 : Value} :
  RepV B w (.mk k n s l) c0 c1 c2 c3 ↔ (c0 = .int .i64 k ∧ c1 = .int .i64 n ∧ c2 = .string s ∧ I64 k ∧ I64 n ∧ s.size ≤ maxLen ∧ RepL B w l c3) := repG_mk
theorem RepG.form {S : Nat → Prop} {w : World} {x : V} {c0 c1 c2 c3 : Value} (h : RepG S w x c0 c1 c2 c3) :
  ∃ (a : Option Addr) (cap : Nat), c0 = .int .i64 x.kind ∧ c1 = .int .i64 x.num ∧ c2 = .string x.text ∧ c3 = .slice a x.list.length cap := by
 cases x with
 | mk k n s l =>
  rw [repG_mk] at h;obtain ⟨h0, h1, h2, h3, h4, h5, a, b, o, cap, e, _⟩ := h;exact ⟨a, cap, h0, h1, h2, e⟩
theorem RepV.form {B : Nat} {w : World} {x : V} {c0 c1 c2 c3 : Value} (h : RepV B w x c0 c1 c2 c3) :
  ∃ (a : Option Addr) (cap : Nat), c0 = .int .i64 x.kind ∧ c1 = .int .i64 x.num ∧ c2 = .string x.text ∧ c3 = .slice a x.list.length cap := RepG.form h
theorem RepG.lst {S : Nat → Prop} {w : World} {x : V} {c0 c1 c2 c3 : Value} (h : RepG S w x c0 c1 c2 c3) : RepLG S w x.list c3 := by
 cases x with
 | mk k n s l => exact (repG_mk.1 h).2.2.2.2.2.2
theorem RepV.lst {B : Nat} {w : World} {x : V} {c0 c1 c2 c3 : Value} (h : RepV B w x c0 c1 c2 c3) : RepL B w x.list c3 := RepG.lst h
theorem RepG.relist {S S' : Nat → Prop} {w w' : World} {x : V} {c0 c1 c2 c3 r : Value} (h : RepG S w x c0 c1 c2 c3) (hr : RepLG S' w' x.list r) : RepG S' w' x c0 c1 c2 r := by
 cases x with
 | mk k n s l =>
  rw [repG_mk] at h ⊢;obtain ⟨h0, h1, h2, h3, h4, h5, _⟩ := h;exact ⟨h0, h1, h2, h3, h4, h5, hr⟩
theorem RepG.on {S S' : Nat → Prop} {w w' : World} (hS : ∀ k, S k → S' k) (hw : ∀ k, S k → w'.heap[k]? = w.heap[k]?) : ∀ (x : V) {c0 c1 c2 c3 : Value}, RepG S w x c0 c1 c2 c3 → RepG S' w' x c0 c1 c2 c3
 | .mk k n s l, c0, c1, c2, c3, h => by
  rw [repG_mk] at h ⊢;obtain ⟨h0, h1, h2, h3, h4, h5, a, b, o, cap, e, h6, h7, h8, h9, h10⟩ := h;refine ⟨h0, h1, h2, h3, h4, h5, a, b, o, cap, e, h6, h7, h8, fun h => hS _ (h9 h), fun i hi => ?_⟩;obtain ⟨x0, x1, x2, x3, g0, g1, g2, g3, g⟩ := h10 i hi;have hb : S b := h9 (by omega);have hc : ∀ o', w'.cell? ⟨b, o', none⟩ = w.cell? ⟨b, o', none⟩ := fun o' => World.cell?_of_block (w := w) (hw b hb)
  exact ⟨x0, x1, x2, x3, by rw [hc]; exact g0, by rw [hc]; exact g1, by rw [hc]; exact g2, by rw [hc]; exact g3, RepG.on hS hw l[i] g⟩
 termination_by x => SizeOf.sizeOf x
 decreasing_by
  have := List.sizeOf_lt_of_mem (List.getElem_mem hi);simp only [V.mk.sizeOf_spec]
  omega
theorem RepLG.on {S S' : Nat → Prop} {w w' : World} (hS : ∀ k, S k → S' k) (hw : ∀ k, S k → w'.heap[k]? = w.heap[k]?) {l : List V} {v : Value} (h : RepLG S w l v) : RepLG S' w' l v := by
 obtain ⟨a, b, o, cap, e, h6, h7, h8, h9, h10⟩ := h;refine ⟨a, b, o, cap, e, h6, h7, h8, fun h => hS _ (h9 h), fun i hi => ?_⟩;obtain ⟨x0, x1, x2, x3, g0, g1, g2, g3, g⟩ := h10 i hi;have hb : S b := h9 (by omega);have hc : ∀ o', w'.cell? ⟨b, o', none⟩ = w.cell? ⟨b, o', none⟩ := fun o' => World.cell?_of_block (w := w) (hw b hb)
 exact ⟨x0, x1, x2, x3, by rw [hc]; exact g0, by rw [hc]; exact g1, by rw [hc]; exact g2, by rw [hc]; exact g3, RepG.on hS hw l[i] g⟩
theorem RepV.below {B : Nat} {w w' : World} (hw : ∀ k, k < B → w'.heap[k]? = w.heap[k]?) (x : V) {c0 c1 c2 c3 : Value} (h : RepV B w x c0 c1 c2 c3) : RepV B w' x c0 c1 c2 c3 := RepG.on (fun _ h => h) hw x h
theorem RepL.below {B : Nat} {w w' : World} (hw : ∀ k, k < B → w'.heap[k]? = w.heap[k]?) {l : List V} {v : Value} (h : RepL B w l v) : RepL B w' l v := RepLG.on (fun _ h => h) hw h
def RepRow (S : Nat → Prop) (w : World) (l : List V) (cur : Array Value) : Prop :=
 ∀ i (h : i < l.length), ∃ x0 x1 x2 x3 : Value, cur[i * 4]? = some x0 ∧ cur[i * 4 + 1]? = some x1 ∧ cur[i * 4 + 2]? = some x2 ∧ cur[i * 4 + 3]? = some x3 ∧ RepG S w l[i] x0 x1 x2 x3
theorem RepRow.on {S S' : Nat → Prop} {w w' : World} {l : List V} {cur : Array Value} (h : RepRow S w l cur) (hS : ∀ k, S k → S' k) (hw : ∀ k, S k → w'.heap[k]? = w.heap[k]?) : RepRow S' w' l cur := fun i hi => by
 obtain ⟨x0, x1, x2, x3, g0, g1, g2, g3, g⟩ := h i hi;exact ⟨x0, x1, x2, x3, g0, g1, g2, g3, RepG.on hS hw _ g⟩
def put4 (cur : Array Value) (i : Nat) (x0 x1 x2 x3 : Value) : Array Value := (((cur.setIfInBounds i x0).setIfInBounds (i + 1) x1).setIfInBounds (i + 2) x2).setIfInBounds (i + 3) x3
theorem put4_size (cur : Array Value) (i : Nat) (x0 x1 x2 x3 : Value) : (put4 cur i x0 x1 x2 x3).size = cur.size := by simp [put4]
theorem RepRow.snoc {S : Nat → Prop} {w : World} {l : List V} {cur : Array Value} (h : RepRow S w l cur) {x : V} {x0 x1 x2 x3 : Value} (hx : RepG S w x x0 x1 x2 x3) (hsz : l.length * 4 + 4 ≤ cur.size) : RepRow S w (l ++ [x]) (put4 cur (l.length * 4) x0 x1 x2 x3) := by
 intro i hi
 by_cases e : i < l.length
 ·obtain ⟨y0, y1, y2, y3, g0, g1, g2, g3, g⟩ := h i e
  refine ⟨y0, y1, y2, y3, ?_, ?_, ?_, ?_, by rw [List.getElem_append_left e]; exact g⟩ <;>
  ·simp only [put4, Array.getElem?_setIfInBounds]
   rw [if_neg (by omega), if_neg (by omega), if_neg (by omega), if_neg (by omega)]
   assumption
 ·simp only [List.length_append, List.length_cons, List.length_nil] at hi
  obtain rfl : i = l.length := by omega
  refine ⟨x0, x1, x2, x3, ?_, ?_, ?_, ?_, by simpa using hx⟩ <;> simp only [put4, Array.getElem?_setIfInBounds, Array.size_setIfInBounds]
  ·rw [if_neg (by omega), if_neg (by omega), if_neg (by omega), if_pos trivial, if_pos (by omega)]
  ·rw [if_neg (by omega), if_neg (by omega), if_pos trivial, if_pos (by omega)]
  ·rw [if_neg (by omega), if_pos trivial, if_pos (by omega)]
  ·rw [if_pos trivial, if_pos (by omega)]
theorem RepRow.slice {S : Nat → Prop} {w : World} {l : List V} {cur : Array Value} (h : RepRow S w l cur) {b : Nat} {t : TypeId} {fz : Nat × Nat} (hb : w.heap[b]? = some (.cells cur t fz)) (hS : S b) {cap : Nat} (hl : l.length ≤ cap) (hc : l.length * 56 ≤ 140737488355328) :
  RepLG S w l (.slice (some ⟨b, 0, none⟩) l.length cap) := by
 refine ⟨_, b, 0, cap, rfl, hl, hc, fun _ => rfl, fun _ => hS, fun i hi => ?_⟩;obtain ⟨x0, x1, x2, x3, g0, g1, g2, g3, g⟩ := h i hi;refine ⟨x0, x1, x2, x3, ?_, ?_, ?_, ?_, g⟩ <;> simp only [World.cell?, hb, Nat.zero_add] <;> assumption
end Go.Proofs.Ytbkligcfllakeaa
namespace Go.Proofs.Ytbkligcfllakeaa
open Go.RowKit
theorem infoValue : (Try.prog.info? 27).map (fun i => (i.zero, i.size, i.bytes)) = some (some (.agg #[.int .i64 0, .int .i64 0, .string ⟨#[]⟩, .slice none 0 0]), 4, 56) := by kernel_rfl
theorem alloc_new' (w : World) (o : Obj) : (w.alloc o).heap[w.heap.size]? = some o := by
 show (w.heap.push o)[w.heap.size]? = _
 simp
theorem cell_of_block' {w : World} {k i : Nat} {cs : Array Value} {t : TypeId} {fz : Nat × Nat} (h : w.heap[k]? = some (.cells cs t fz)) (v : Value) (hv : cs[i]? = some v) : w.cell? ⟨k, i, none⟩ = some v := by
 simp [World.cell?, h, hv]
theorem cell_some {w : World} {k i : Nat} {cs : Array Value} {t : TypeId} {fz : Nat × Nat} (h : w.heap[k]? = some (.cells cs t fz)) (hi : i < cs.size) : ∃ v, w.cell? ⟨k, i, none⟩ = some v :=
 ⟨cs[i], cell_of_block' h _ (Array.getElem?_eq_getElem hi)⟩
theorem RepLG.at {S : Nat → Prop} {w : World} {l : List V} {a : Option Addr} {n cap : Nat} (h : RepLG S w l (.slice a n cap)) (i : Nat) (hi : i < l.length) :
  n = l.length ∧ l.length ≤ cap ∧ ∃ b o fa fc, a = some ⟨b, o, none⟩ ∧ S b ∧ w.cell? ⟨b, o + i * 4, none⟩ = some (.int .i64 l[i].kind) ∧ w.cell? ⟨b, o + i * 4 + 1, none⟩ = some (.int .i64 l[i].num) ∧ w.cell? ⟨b, o + i * 4 + 2, none⟩ = some (.string l[i].text) ∧
   w.cell? ⟨b, o + i * 4 + 3, none⟩ = some (.slice fa l[i].list.length fc) ∧ RepG S w l[i] (.int .i64 l[i].kind) (.int .i64 l[i].num) (.string l[i].text) (.slice fa l[i].list.length fc) := by
 obtain ⟨a', b, o, cap', e, h6, h7, h8, h9, h10⟩ := h
 cases e
 obtain ⟨x0, x1, x2, x3, g0, g1, g2, g3, g⟩ := h10 i hi;obtain ⟨fa, fc, rfl, rfl, rfl, rfl⟩ := g.form;exact ⟨rfl, h6, b, o, fa, fc, h8 (by omega), h9 (by omega), g0, g1, g2, g3, g⟩
theorem below_alloc (w : World) (o : Obj) : Below w.heap.size w (w.alloc o) := (Below.refl _ w).alloc (Nat.le_refl _) o
end Go.Proofs.Ytbkligcfllakeaa
namespace Go.Proofs.Ytbkligcfllakeaa
open Go.RowKit
def OwnL (S : Nat → Prop) (w : World) (base : Nat) (l : List V) (v : Value) : Prop :=
 ∃ xs, w.ownsRow base 27 4 v l.length xs ∧ RepRow S w l xs.toArray
theorem OwnL.nil (S : Nat → Prop) (w : World) (base : Nat) : OwnL S w base [] (.slice none 0 0) :=
 ⟨[], World.ownsRow_nil _ _ _ _, fun i hi => by simp at hi⟩
theorem row_snoc {S : Nat → Prop} {w : World} {l : List V} {xs : List Value} (h : RepRow S w l xs.toArray) (hl : xs.length = l.length * 4) {x : V} {y0 y1 y2 y3 : Value} (hx : RepG S w x y0 y1 y2 y3) : RepRow S w (l ++ [x]) (xs ++ [y0, y1, y2, y3]).toArray := by
 intro i hi
 by_cases e : i < l.length
 ·obtain ⟨z0, z1, z2, z3, g0, g1, g2, g3, g⟩ := h i e
  refine ⟨z0, z1, z2, z3, ?_, ?_, ?_, ?_, by rw [List.getElem_append_left e]; exact g⟩ <;>
  ·simp only [List.getElem?_toArray] at *
   rw [List.getElem?_append_left (by omega)]
   assumption
 ·simp only [List.length_append, List.length_cons, List.length_nil] at hi
  obtain rfl : i = l.length := by omega
  refine ⟨y0, y1, y2, y3, ?_, ?_, ?_, ?_, by simpa using hx⟩ <;>
  ·simp only [List.getElem?_toArray]
   rw [List.getElem?_append_right (by omega)];simp [hl]
theorem OwnL.rep {S S' : Nat → Prop} {w : World} {base : Nat} {l : List V} {v : Value} (h : OwnL S w base l v) (hS : ∀ k, S k → S' k) (hg : ∀ g, base ≤ g → g < w.heap.size → S' g) (hb : l.length * 56 ≤ 140737488355328) : RepLG S' w l v := by
 obtain ⟨xs, ⟨hlen, hown⟩, hr⟩ := h;rcases hown with ⟨rfl, hn⟩ | ⟨g, cap, cur, rfl, hbg, hh, hnc, hcm, hcs, htk⟩
 ·obtain rfl : l = [] := List.length_eq_zero_iff.1 hn
  exact ⟨none, 0, 0, 0, rfl, Nat.le_refl _, by simp, fun h => by omega, fun h => by simp at h, fun i hi => by simp at hi⟩
 ·have hr' : RepRow S w l cur := by
   intro i hi;obtain ⟨z0, z1, z2, z3, g0, g1, g2, g3, gg⟩ := hr i hi
   have key : ∀ j v, j < l.length * 4 → xs.toArray[j]? = some v → cur[j]? = some v := by
    intro j v hj hv;rw [List.getElem?_toArray, ← htk, List.getElem?_take, if_pos hj] at hv;rw [← Array.getElem?_toList]; exact hv
   exact ⟨z0, z1, z2, z3, key _ _ (by omega) g0, key _ _ (by omega) g1, key _ _ (by omega) g2, key _ _ (by omega) g3, gg⟩
  exact (hr'.on hS (fun _ _ => rfl)).slice hh (hg g hbg (Array.getElem?_eq_some_iff.1 hh).1) hnc hb
theorem OwnL.on {S S' : Nat → Prop} {w w' : World} {base : Nat} {l : List V} {v : Value} (h : OwnL S w base l v) (hS : ∀ k, S k → S' k) (hw : ∀ k, S k → w'.heap[k]? = w.heap[k]?) (ho : ∀ k, base ≤ k → k < w.heap.size → v.ownBlock = some k → w'.heap[k]? = w.heap[k]?) : OwnL S' w' base l v := by
 obtain ⟨xs, ⟨hlen, hown⟩, hr⟩ := h;refine ⟨xs, ⟨hlen, ?_⟩, hr.on hS hw⟩;rcases hown with h | ⟨g, cap, cur, rfl, hbg, hh, r⟩
 ·exact .inl h
 ·exact .inr ⟨g, cap, cur, rfl, hbg, (ho g hbg (Array.getElem?_eq_some_iff.1 hh).1 rfl).trans hh, r⟩
theorem OwnL.stands {S S' : Nat → Prop} {w w' : World} {base : Nat} {l : List V} {v : Value} (h : OwnL S w base l v) (hS : ∀ k, S k → S' k ∧ k < w.heap.size) (hb : Below w.heap.size w w') : OwnL S' w' base l v :=
 h.on (fun k hk => (hS k hk).1) (fun k hk => hb.block k (hS k hk).2) (fun k _ hk _ => hb.block k hk)
end Go.Proofs.Ytbkligcfllakeaa
namespace Go.Proofs.Ytbkligcfllakeaa
open Go.RowKit
theorem RepLG.flat {S : Nat → Prop} {w : World} {l : List V} {a : Option Addr} {len cap : Nat} (h : RepLG S w l (.slice a len cap)) :
  len = l.length ∧ ∃ (b o : Nat) (xs : List Value), (0 < cap → a = some ⟨b, o, none⟩) ∧ xs.length = l.length * 4 ∧ (∀ j u, xs[j]? = some u → w.cell? ⟨b, o + j, none⟩ = some u) ∧ (∀ u ∈ xs, u.oneCell' = true) ∧ RepRow S w l xs.toArray := by
 obtain ⟨a', b, o, cap', e, h6, h7, h8, h9, h10⟩ := h
 cases e
 refine ⟨rfl, b, o, ?_⟩;clear h6 h7 h9
 suffices H : ∀ n, n ≤ l.length → ∃ xs : List Value, xs.length = n * 4 ∧ (∀ j u, xs[j]? = some u → w.cell? ⟨b, o + j, none⟩ = some u) ∧ (∀ u ∈ xs, u.oneCell' = true) ∧ RepRow S w (l.take n) xs.toArray by
  obtain ⟨xs, h1, h2, h3, h4⟩ := H l.length (Nat.le_refl _);rw [List.take_length] at h4;exact ⟨xs, h8, h1, h2, h3, h4⟩
 intro n
 induction n with
 | zero => exact fun _ => ⟨[], rfl, fun j u hj => by simp at hj, fun u hu => by simp at hu, fun i hi => by simp at hi⟩
 | succ n ih =>
  intro hn;obtain ⟨xs, h1, h2, h3, h4⟩ := ih (by omega);obtain ⟨x0, x1, x2, x3, g0, g1, g2, g3, g⟩ := h10 n (by omega);obtain ⟨fa, fc, rfl, rfl, rfl, rfl⟩ := g.form;refine ⟨xs ++ [.int .i64 l[n].kind, .int .i64 l[n].num, .string l[n].text, .slice fa l[n].list.length fc], by simp [h1]; omega, ?_, ?_, ?_⟩
  ·intro j u hj
   by_cases hj1 : j < xs.length
   ·rw [List.getElem?_append_left hj1] at hj; exact h2 j u hj
   ·rw [List.getElem?_append_right (by omega)] at hj
    have hj2 : j - xs.length < 4 := by
     have := (List.getElem?_eq_some_iff.1 hj).1
     simpa using this
    obtain ⟨t, rfl⟩ : ∃ t, j = n * 4 + t := ⟨j - n * 4, by omega⟩;have ht : n * 4 + t - xs.length = t := by omega
    rw [ht] at hj hj2
    match t, hj2, hj with
    | 0, _, hj => simp at hj; subst hj; exact g0
    | 1, _, hj => simp at hj; subst hj; exact g1
    | 2, _, hj => simp at hj; subst hj; exact g2
    | 3, _, hj => simp at hj; subst hj; exact g3
  ·intro u hu
   rcases List.mem_append.1 hu with hu | hu
   ·exact h3 u hu
   ·simp at hu; rcases hu with rfl | rfl | rfl | rfl <;> rfl
  ·rw [List.take_succ_eq_append_getElem (by omega)]
   exact row_snoc h4 (by rw [h1]; simp; omega) g
theorem row_append {S : Nat → Prop} {w : World} {l : List V} {xs : List Value} (h : RepRow S w l xs.toArray) (hl : xs.length = l.length * 4) {m : List V} {ys : List Value} (h' : RepRow S w m ys.toArray) : RepRow S w (l ++ m) (xs ++ ys).toArray := by
 intro i hi
 by_cases e : i < l.length
 ·obtain ⟨z0, z1, z2, z3, g0, g1, g2, g3, g⟩ := h i e
  refine ⟨z0, z1, z2, z3, ?_, ?_, ?_, ?_, by rw [List.getElem_append_left e]; exact g⟩ <;>
  ·simp only [List.getElem?_toArray] at *
   rw [List.getElem?_append_left (by omega)]
   assumption
 ·have hi' : i - l.length < m.length := by simp at hi; omega
  obtain ⟨z0, z1, z2, z3, g0, g1, g2, g3, g⟩ := h' (i - l.length) hi';have e4 : i * 4 - xs.length = (i - l.length) * 4 := by omega
  refine ⟨z0, z1, z2, z3, ?_, ?_, ?_, ?_, by rw [List.getElem_append_right (by omega)]; exact g⟩ <;>
  ·simp only [List.getElem?_toArray] at *
   rw [List.getElem?_append_right (by omega)]
   first
    | (rw [show i * 4 - xs.length = (i - l.length) * 4 by omega]; assumption)
    | (rw [show i * 4 + 1 - xs.length = (i - l.length) * 4 + 1 by omega]; assumption)
    | (rw [show i * 4 + 2 - xs.length = (i - l.length) * 4 + 2 by omega]; assumption)
    | (rw [show i * 4 + 3 - xs.length = (i - l.length) * 4 + 3 by omega]; assumption)
theorem add_lit' (b o j : Nat) : ((⟨b, o, none⟩ : Addr).add j) = ⟨b, o + j, none⟩ := by unfold Addr.add; split <;> simp_all
theorem append_run (w : World) (base : Nat) (ty : TypeId) {S : Nat → Prop} {l m : List V} {v x : Value} (hl : OwnL S w base l v) (hm : RepLG S w m x) (hS : ∀ k, S k → k < w.heap.size ∧ v.ownBlock ≠ some k)
  (hlen : (l.length + m.length) * 56 ≤ 140737488355328) (hbase : base ≤ w.heap.size) :
  ∃ v' w', (Builtin.append_ #[22, 22] ty #[v, x]).run Try.prog w = .ok v' w' ∧ OwnL S w' base (l ++ m) v' ∧ w.grownBy w' v.ownBlock ∧ (v'.ownBlock = v.ownBlock ∨ v'.ownBlock = some w.heap.size) := by
 obtain ⟨i0, hi, hz0, hz1, hz2⟩ := info_parts infoValue;obtain ⟨xs, hown, hrow⟩ := hl;obtain ⟨a, b, o, cap, rfl, -⟩ := id hm;obtain ⟨-, b, o, ys, hx1, hx2, hx3, hx4, hx5⟩ := RepLG.flat hm
 have fin : ∀ v' w', w'.ownsRow base 27 4 v' (l.length + m.length) (xs ++ ys) → w.grownBy w' v.ownBlock → OwnL S w' base (l ++ m) v' := fun v' w' h1 h2 =>
  ⟨xs ++ ys, by rw [List.length_append]; exact h1, (row_append hrow hown.1 hx5).on (fun k hk => hk) (fun k hk => h2.block k (hS k hk).1 (fun e => (hS k hk).2 e.symm))⟩
 rcases a with _ | ad
 ·have hm0 : m = [] := by
   by_cases hc : 0 < cap
   ·have := hx1 hc; cases this
   ·obtain ⟨a', b', o', cap', e', h6, _⟩ := hm
    cases e'
    exact List.length_eq_zero_iff.1 (by omega)
  subst hm0;have hys : ys = [] := List.length_eq_zero_iff.1 (by simpa using hx2);subst hys
  have hc0 : cap = 0 := by
   by_cases hc : 0 < cap
   ·have := hx1 hc; cases this
   ·omega
  subst hc0;have hrun := run_append_owned_none (P := Try.prog) (w := w) base 22 ty 27 i0 4 Try.underlying22 hi v l.length xs hown;exact ⟨v, w, hrun, fin v w (by simpa using hown) (World.grownBy.refl w _), World.grownBy.refl w _, .inl rfl⟩
 ·have hnews : ∀ j u, ys[j]? = some u → w.cell? (ad.add j) = some u := fun j u hj => by
   by_cases hc : 0 < cap
   ·have := Option.some.inj (hx1 hc)
    subst this;rw [add_lit']; exact hx3 j u hj
   ·obtain ⟨a', b', o', cap', e', h6, _⟩ := hm
    cases e'
    have : ys = [] := List.length_eq_zero_iff.1 (by rw [hx2]; omega);rw [this] at hj; simp at hj
  obtain ⟨v', w', hrun, h1, h2, _, h5⟩ := run_append_own_at (P := Try.prog) w base 22 ty 27 i0 _ 4 56 Try.underlying22 hi hz0 hz1 hz2 rfl (by decide) v l.length xs hown ad m.length cap ys hx2 hnews hx4 (by unfold maxLen; omega) hlen hbase;exact ⟨v', w', hrun, fin v' w' h1 h2, h2, h5⟩
theorem wpList_append_by {P : Program} {w w' : World} {ops : Array Oper} {rest : List Oper} {o : Oper} {a : Act} {Q : Exit → Act → World → Prop} (hgd : o.guard = none) (s x : Operand) (t : TypeId)
  (ho : o.op = .call { callee := .builtin .append, args := #[s, x], argTypes := #[t, t] }) {v xv v' : Value} (hs : a.eval s = v) (hx : a.eval x = xv) (hrun : (Builtin.append_ #[t, t] o.type #[v, xv]).run P w = .ok v' w')
  (h : wpList P ops Q rest (a.put o.dst v') w') : wpList P ops Q (o :: rest) a w := by
 refine wpList_plain hgd fun K hK => ?_
 unfold Oper.wp execOp;simp only [ho, resolve, invoke, builtin, Sem.run_bind, Sem.run_pure, Result.andThen_ok, List.map_toArray, List.map_cons, List.map_nil, hs, hx, hrun]
 exact hK _ _ h
end Go.Proofs.Ytbkligcfllakeaa
namespace Go.Proofs.Ytbkligcfllakeaa
open Go.RowKit
def SlG {α : Type} (S : Nat → Prop) (w : World) (n bytes : Nat) (R : α → (Nat → Value) → Prop) (l : List α) (v : Value) : Prop :=
 ∃ (a : Option Addr) (b o cap : Nat), v = .slice a l.length cap ∧ l.length ≤ cap ∧ l.length * bytes ≤ 140737488355328 ∧ (0 < cap → a = some ⟨b, o, none⟩) ∧ (0 < l.length → S b) ∧
  ∀ i (h : i < l.length), ∃ c : Nat → Value, (∀ j, j < n → w.cell? ⟨b, o + i * n + j, none⟩ = some (c j)) ∧ R l[i] c
theorem SlG.on {α : Type} {S S' : Nat → Prop} {w w' : World} {n bytes : Nat} {R R' : α → (Nat → Value) → Prop} {l : List α} {v : Value} (hS : ∀ k, S k → S' k) (hw : ∀ k, S k → w'.heap[k]? = w.heap[k]?) (hR : ∀ x ∈ l, ∀ c, R x c → R' x c) (h : SlG S w n bytes R l v) : SlG S' w' n bytes R' l v := by
 obtain ⟨a, b, o, cap, e, h6, h7, h8, h9, h10⟩ := h;refine ⟨a, b, o, cap, e, h6, h7, h8, fun h => hS _ (h9 h), fun i hi => ?_⟩;obtain ⟨c, hc, hr⟩ := h10 i hi;have hb : S b := h9 (by omega);exact ⟨c, fun j hj => (World.cell?_of_block (w := w) (hw b hb)).trans (hc j hj), hR _ (List.getElem_mem hi) c hr⟩
theorem SlG.form {α : Type} {S : Nat → Prop} {w : World} {n bytes : Nat} {R : α → (Nat → Value) → Prop} {l : List α} {v : Value} (h : SlG S w n bytes R l v) : ∃ (a : Option Addr) (cap : Nat), v = .slice a l.length cap := by
 obtain ⟨a, b, o, cap, e, -⟩ := h;exact ⟨a, cap, e⟩
theorem SlG.at {α : Type} {S : Nat → Prop} {w : World} {n bytes : Nat} {R : α → (Nat → Value) → Prop} {l : List α} {a : Option Addr} {len cap : Nat} (h : SlG S w n bytes R l (.slice a len cap)) (i : Nat) (hi : i < l.length) :
  len = l.length ∧ l.length ≤ cap ∧ ∃ (b o : Nat), a = some ⟨b, o, none⟩ ∧ S b ∧ ∃ c : Nat → Value, (∀ j, j < n → w.cell? ⟨b, o + i * n + j, none⟩ = some (c j)) ∧ R l[i] c := by
 obtain ⟨a', b, o, cap', e, h6, h7, h8, h9, h10⟩ := h
 cases e
 exact ⟨rfl, h6, b, o, h8 (by omega), h9 (by omega), h10 i hi⟩
theorem SlG.bytes {α : Type} {S : Nat → Prop} {w : World} {n bytes : Nat} {R : α → (Nat → Value) → Prop} {l : List α} {v : Value} (h : SlG S w n bytes R l v) : l.length * bytes ≤ 140737488355328 := by
 obtain ⟨a, b, o, cap, e, h6, h7, -⟩ := h;exact h7
inductive Tm where
 | mk (kind : Int) (name : ByteArray) (val : V) (args : List Tm) : Tm
namespace Tm
def kind : Tm → Int | mk k _ _ _ => k
def name : Tm → ByteArray | mk _ s _ _ => s
def val : Tm → V | mk _ _ x _ => x
def args : Tm → List Tm | mk _ _ _ l => l
end Tm
def RepM (S : Nat → Prop) (w : World) : Tm → Value → Value → Value → Value → Value → Value → Value → Prop
 | .mk k s x l, c0, c1, c2, c3, c4, c5, c6 => c0 = .int .i64 k ∧ c1 = .string s ∧ I64 k ∧ s.size ≤ maxLen ∧ RepG S w x c2 c3 c4 c5 ∧
   ∃ (a : Option Addr) (b o cap : Nat), c6 = .slice a l.length cap ∧ l.length ≤ cap ∧ l.length * 104 ≤ 140737488355328 ∧ (0 < cap → a = some ⟨b, o, none⟩) ∧ (0 < l.length → S b) ∧
    ∀ i (h : i < l.length), ∃ c : Nat → Value, (∀ j, j < 7 → w.cell? ⟨b, o + i * 7 + j, none⟩ = some (c j)) ∧ RepM S w l[i] (c 0) (c 1) (c 2) (c 3) (c 4) (c 5) (c 6)
 termination_by x => SizeOf.sizeOf x
 decreasing_by
  have := List.sizeOf_lt_of_mem (List.getElem_mem h);simp only [Tm.mk.sizeOf_spec]
  omega
def RepMs (S : Nat → Prop) (w : World) (l : List Tm) (v : Value) : Prop := SlG S w 7 104 (fun x c => RepM S w x (c 0) (c 1) (c 2) (c 3) (c 4) (c 5) (c 6)) l v
theorem repM_mk {S : Nat → Prop} {w : World} {k : Int} {s : ByteArray} {x : V} {l : List Tm} {c0 c1 c2 c3 c4 c5 c6 : Value} :
  RepM S w (.mk k s x l) c0 c1 c2 c3 c4 c5 c6 ↔ (c0 = .int .i64 k ∧ c1 = .string s ∧ I64 k ∧ s.size ≤ maxLen ∧ RepG S w x c2 c3 c4 c5 ∧ RepMs S w l c6) := by
 rw [RepM]; rfl
theorem RepM.on {S S' : Nat → Prop} {w w' : World} (hS : ∀ k, S k → S' k) (hw : ∀ k, S k → w'.heap[k]? = w.heap[k]?) : ∀ (x : Tm) {c0 c1 c2 c3 c4 c5 c6 : Value}, RepM S w x c0 c1 c2 c3 c4 c5 c6 → RepM S' w' x c0 c1 c2 c3 c4 c5 c6
 | .mk k s x l, c0, c1, c2, c3, c4, c5, c6, h => by
  rw [repM_mk] at h ⊢;obtain ⟨h0, h1, h2, h3, h4, a, b, o, cap, e, h6, h7, h8, h9, h10⟩ := h;refine ⟨h0, h1, h2, h3, RepG.on hS hw x h4, a, b, o, cap, e, h6, h7, h8, fun h => hS _ (h9 h), fun i hi => ?_⟩;obtain ⟨c, hc, hr⟩ := h10 i hi;have hb : S b := h9 (by omega);exact ⟨c, fun j hj => (World.cell?_of_block (w := w) (hw b hb)).trans (hc j hj), RepM.on hS hw l[i] hr⟩
 termination_by x => SizeOf.sizeOf x
 decreasing_by
  have := List.sizeOf_lt_of_mem (List.getElem_mem hi);simp only [Tm.mk.sizeOf_spec]
  omega
theorem RepMs.on {S S' : Nat → Prop} {w w' : World} (hS : ∀ k, S k → S' k) (hw : ∀ k, S k → w'.heap[k]? = w.heap[k]?) {l : List Tm} {v : Value} (h : RepMs S w l v) : RepMs S' w' l v :=
 SlG.on hS hw (fun x _ _ hx => RepM.on hS hw x hx) h
theorem RepM.form {S : Nat → Prop} {w : World} {x : Tm} {c0 c1 c2 c3 c4 c5 c6 : Value} (h : RepM S w x c0 c1 c2 c3 c4 c5 c6) :
  ∃ (fa : Option Addr) (fc : Nat) (ga : Option Addr) (gc : Nat), c0 = .int .i64 x.kind ∧ c1 = .string x.name ∧ c2 = .int .i64 x.val.kind ∧ c3 = .int .i64 x.val.num ∧ c4 = .string x.val.text ∧ c5 = .slice fa x.val.list.length fc ∧ c6 = .slice ga x.args.length gc := by
 cases x with
 | mk k s x l =>
  rw [repM_mk] at h;obtain ⟨h0, h1, -, -, h4, h5⟩ := h;obtain ⟨fa, fc, e2, e3, e4, e5⟩ := h4.form;obtain ⟨ga, gc, e6⟩ := SlG.form h5;exact ⟨fa, fc, ga, gc, h0, h1, e2, e3, e4, e5, e6⟩
theorem RepM.value {S : Nat → Prop} {w : World} {x : Tm} {c0 c1 c2 c3 c4 c5 c6 : Value} (h : RepM S w x c0 c1 c2 c3 c4 c5 c6) : RepG S w x.val c2 c3 c4 c5 := by
 cases x with
 | mk k s x l => exact (repM_mk.1 h).2.2.2.2.1
theorem RepM.lst {S : Nat → Prop} {w : World} {x : Tm} {c0 c1 c2 c3 c4 c5 c6 : Value} (h : RepM S w x c0 c1 c2 c3 c4 c5 c6) : RepMs S w x.args c6 := by
 cases x with
 | mk k s x l => exact (repM_mk.1 h).2.2.2.2.2
theorem RepM.bounds {S : Nat → Prop} {w : World} {x : Tm} {c0 c1 c2 c3 c4 c5 c6 : Value} (h : RepM S w x c0 c1 c2 c3 c4 c5 c6) : I64 x.kind ∧ x.name.size ≤ maxLen := by
 cases x with
 | mk k s x l => exact ⟨(repM_mk.1 h).2.2.1, (repM_mk.1 h).2.2.2.1⟩
def TmAt (S : Nat → Prop) (w : World) (x : Tm) (fa : Option Addr) (fc : Nat) (ga : Option Addr) (gc : Nat) : Prop :=
 RepM S w x (.int .i64 x.kind) (.string x.name) (.int .i64 x.val.kind) (.int .i64 x.val.num) (.string x.val.text) (.slice fa x.val.list.length fc) (.slice ga x.args.length gc)
theorem RepMs.at {S : Nat → Prop} {w : World} {l : List Tm} {a : Option Addr} {len cap : Nat} (h : RepMs S w l (.slice a len cap)) (i : Nat) (hi : i < l.length) :
  len = l.length ∧ l.length ≤ cap ∧ ∃ (b o : Nat) (fa : Option Addr) (fc : Nat) (ga : Option Addr) (gc : Nat), a = some ⟨b, o, none⟩ ∧ S b ∧
   w.cell? ⟨b, o + i * 7, none⟩ = some (.int .i64 l[i].kind) ∧ w.cell? ⟨b, o + i * 7 + 1, none⟩ = some (.string l[i].name) ∧ w.cell? ⟨b, o + i * 7 + 2, none⟩ = some (.int .i64 l[i].val.kind) ∧ w.cell? ⟨b, o + i * 7 + 3, none⟩ = some (.int .i64 l[i].val.num) ∧
   w.cell? ⟨b, o + i * 7 + 4, none⟩ = some (.string l[i].val.text) ∧ w.cell? ⟨b, o + i * 7 + 5, none⟩ = some (.slice fa l[i].val.list.length fc) ∧ w.cell? ⟨b, o + i * 7 + 6, none⟩ = some (.slice ga l[i].args.length gc) ∧ TmAt S w l[i] fa fc ga gc := by
 obtain ⟨h1, h2, b, o, h3, h4, c, hc, hr⟩ := SlG.at h i hi;obtain ⟨fa, fc, ga, gc, e0, e1, e2, e3, e4, e5, e6⟩ := hr.form;rw [e0, e1, e2, e3, e4, e5, e6] at hr;exact ⟨h1, h2, b, o, fa, fc, ga, gc, h3, h4, by rw [← e0]; exact hc 0 (by omega), by rw [← e1]; exact hc 1 (by omega), by rw [← e2]; exact hc 2 (by omega), by rw [← e3]; exact hc 3 (by omega), by rw [← e4]; exact hc 4 (by omega), by rw [← e5]; exact hc 5 (by omega), by rw [← e6]; exact hc 6 (by omega), hr⟩
section
variable {S S' : Nat → Prop} {w w' : World} (hS : ∀ k, S k → S' k) (hw : ∀ k, S k → w'.heap[k]? = w.heap[k]?)
include hS hw
end
end Go.Proofs.Ytbkligcfllakeaa
namespace Go.Proofs.Ytbkligcfllakeaa
open Go.RowKit
end Go.Proofs.Ytbkligcfllakeaa
namespace Go.Proofs.Ytbkligcfllakeaa
open Go.RowKit
def Boxed (w : World) (k : Nat) (c0 c1 c2 c3 : Value) : Prop := w.heap[k]? = some (.cells #[c0, c1, c2, c3] 27 (0, 0))
theorem Boxed.cells {w : World} {k : Nat} {c0 c1 c2 c3 : Value} (h : Boxed w k c0 c1 c2 c3) : w.cell? ⟨k, 0, none⟩ = some c0 ∧ w.cell? ⟨k, 1, none⟩ = some c1 ∧ w.cell? ⟨k, 2, none⟩ = some c2 ∧ w.cell? ⟨k, 3, none⟩ = some c3 :=
 ⟨cell_of_block' h _ rfl, cell_of_block' h _ rfl, cell_of_block' h _ rfl, cell_of_block' h _ rfl⟩
theorem Boxed.lt {w : World} {k : Nat} {c0 c1 c2 c3 : Value} (h : Boxed w k c0 c1 c2 c3) : k < w.heap.size := (Array.getElem?_eq_some_iff.1 h).1
theorem Boxed.on {w w' : World} {k : Nat} {c0 c1 c2 c3 : Value} (h : Boxed w k c0 c1 c2 c3) (hb : Below w.heap.size w w') : Boxed w' k c0 c1 c2 c3 := (hb.block k h.lt).trans h
theorem boxed_new (w : World) (c0 c1 c2 c3 : Value) : Boxed (w.alloc (.cells #[c0, c1, c2, c3] 27)) w.heap.size c0 c1 c2 c3 := alloc_new' _ _
theorem RepV.on {B : Nat} {w w' : World} (hb : Below w.heap.size w w') (hB : B ≤ w.heap.size) {x : V} {c0 c1 c2 c3 : Value} (h : RepV B w x c0 c1 c2 c3) : RepV B w' x c0 c1 c2 c3 := RepV.below (fun j hj => hb.block j (by omega)) _ h
theorem Below.step {w w1 w2 : World} (h : Below w.heap.size w w1) (h' : Below w1.heap.size w1 w2) : Below w.heap.size w w2 := h.trans (h'.mono h.size)
end Go.Proofs.Ytbkligcfllakeaa
