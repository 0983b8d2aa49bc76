/-
  api.Value as plain data: 'V' is a value's tree; 'RepV B w' says that four cells (Kind, Int, Text, List) hold it in the world w, its lists in blocks below B. No program is named here.
-/
import Derived.Test.YtkaiihoijcpldaaProg
import Derived.WalkKit
import Derived.Shelf.Small.Wraps
import Derived.Lib.Hide
import Derived.Shelf.Strings.Builder1
import Derived.Shelf.Strconv.Itoa0
import Derived.WalkSpells
import Derived.WalkLawsBesides
namespace Go.Proofs.Ytkaiihoijcpldaa
open Go.RowKit

inductive V where
  | mk (k n : Int) (s : ByteArray) (l : List V) : V
namespace V
def kind : V → Int | mk k _ _ _ => k
def num : V → Int | mk _ n _ _ => n
def text : V → ByteArray | mk _ _ s _ => s
def list : V → List V | mk _ _ _ l => l
end V

/-- A number that an int holds. -/
def I64 (n : Int) : Prop := -9223372036854775808 ≤ n ∧ n ≤ 9223372036854775807

/-- Four cells hold a value in the world w; the rows of its lists lie in blocks of S. -/
def RepG (S : Nat → Prop) (w : World) : V → Value → Value → Value → Value → Prop
  | .mk k n s l, c0, c1, c2, c3 => c0 = .int .i64 k ∧ c1 = .int .i64 n ∧ c2 = .string s ∧ I64 k ∧ I64 n ∧ s.size ≤ maxLen ∧
      ∃ (a : Option Addr) (b o cap : Nat), c3 = .slice a l.length cap ∧ l.length ≤ cap ∧ l.length * 56 ≤ 140737488355328 ∧ (0 < cap → a = some ⟨b, o, none⟩) ∧ (0 < l.length → S b) ∧
        ∀ i (h : i < l.length), ∃ x0 x1 x2 x3 : Value, w.cell? ⟨b, o + i * 4, none⟩ = some x0 ∧ w.cell? ⟨b, o + i * 4 + 1, none⟩ = some x1 ∧ w.cell? ⟨b, o + i * 4 + 2, none⟩ = some x2 ∧
          w.cell? ⟨b, o + i * 4 + 3, none⟩ = some x3 ∧ RepG S w l[i] x0 x1 x2 x3
  termination_by x => SizeOf.sizeOf x
  decreasing_by
    have := List.sizeOf_lt_of_mem (List.getElem_mem h)
    simp only [V.mk.sizeOf_spec]
    omega

/-- A slice of values. -/
def RepLG (S : Nat → Prop) (w : World) (l : List V) (v : Value) : Prop :=
  ∃ (a : Option Addr) (b o cap : Nat), v = .slice a l.length cap ∧ l.length ≤ cap ∧ l.length * 56 ≤ 140737488355328 ∧ (0 < cap → a = some ⟨b, o, none⟩) ∧ (0 < l.length → S b) ∧
    ∀ i (h : i < l.length), ∃ x0 x1 x2 x3 : Value, w.cell? ⟨b, o + i * 4, none⟩ = some x0 ∧ w.cell? ⟨b, o + i * 4 + 1, none⟩ = some x1 ∧ w.cell? ⟨b, o + i * 4 + 2, none⟩ = some x2 ∧
      w.cell? ⟨b, o + i * 4 + 3, none⟩ = some x3 ∧ RepG S w l[i] x0 x1 x2 x3

/-- The same, in blocks below B. -/
def RepV (B : Nat) (w : World) (x : V) (c0 c1 c2 c3 : Value) : Prop := RepG (fun b => b < B) w x c0 c1 c2 c3
def RepL (B : Nat) (w : World) (l : List V) (v : Value) : Prop := RepLG (fun b => b < B) w l v

theorem repG_mk {S : Nat → Prop} {w : World} {k n : Int} {s : ByteArray} {l : List V} {c0 c1 c2 c3 : Value} :
    RepG S w (.mk k n s l) c0 c1 c2 c3 ↔ (c0 = .int .i64 k ∧ c1 = .int .i64 n ∧ c2 = .string s ∧ I64 k ∧ I64 n ∧ s.size ≤ maxLen ∧ RepLG S w l c3) := by
  rw [RepG]; rfl
theorem repV_mk {B : Nat} {w : World} {k n : Int} {s : ByteArray} {l : List V} {c0 c1 c2 c3 : Value} :
    RepV B w (.mk k n s l) c0 c1 c2 c3 ↔ (c0 = .int .i64 k ∧ c1 = .int .i64 n ∧ c2 = .string s ∧ I64 k ∧ I64 n ∧ s.size ≤ maxLen ∧ RepL B w l c3) := repG_mk

theorem RepG.form {S : Nat → Prop} {w : World} {x : V} {c0 c1 c2 c3 : Value} (h : RepG S w x c0 c1 c2 c3) :
    ∃ (a : Option Addr) (cap : Nat), c0 = .int .i64 x.kind ∧ c1 = .int .i64 x.num ∧ c2 = .string x.text ∧ c3 = .slice a x.list.length cap := by
  cases x with
  | mk k n s l =>
    rw [repG_mk] at h
    obtain ⟨h0, h1, h2, h3, h4, h5, a, b, o, cap, e, _⟩ := h
    exact ⟨a, cap, h0, h1, h2, e⟩
theorem RepV.form {B : Nat} {w : World} {x : V} {c0 c1 c2 c3 : Value} (h : RepV B w x c0 c1 c2 c3) :
    ∃ (a : Option Addr) (cap : Nat), c0 = .int .i64 x.kind ∧ c1 = .int .i64 x.num ∧ c2 = .string x.text ∧ c3 = .slice a x.list.length cap := RepG.form h

theorem RepG.lst {S : Nat → Prop} {w : World} {x : V} {c0 c1 c2 c3 : Value} (h : RepG S w x c0 c1 c2 c3) : RepLG S w x.list c3 := by
  cases x with
  | mk k n s l => exact (repG_mk.1 h).2.2.2.2.2.2
theorem RepV.lst {B : Nat} {w : World} {x : V} {c0 c1 c2 c3 : Value} (h : RepV B w x c0 c1 c2 c3) : RepL B w x.list c3 := RepG.lst h
/-- The same value with another list in memory. -/
theorem RepG.relist {S S' : Nat → Prop} {w w' : World} {x : V} {c0 c1 c2 c3 r : Value} (h : RepG S w x c0 c1 c2 c3) (hr : RepLG S' w' x.list r) : RepG S' w' x c0 c1 c2 r := by
  cases x with
  | mk k n s l =>
    rw [repG_mk] at h ⊢
    obtain ⟨h0, h1, h2, h3, h4, h5, _⟩ := h
    exact ⟨h0, h1, h2, h3, h4, h5, hr⟩

/-- What lies in S stays; and S may grow. -/
theorem RepG.on {S S' : Nat → Prop} {w w' : World} (hS : ∀ k, S k → S' k) (hw : ∀ k, S k → w'.heap[k]? = w.heap[k]?) : ∀ (x : V) {c0 c1 c2 c3 : Value}, RepG S w x c0 c1 c2 c3 → RepG S' w' x c0 c1 c2 c3
  | .mk k n s l, c0, c1, c2, c3, h => by
    rw [repG_mk] at h ⊢
    obtain ⟨h0, h1, h2, h3, h4, h5, a, b, o, cap, e, h6, h7, h8, h9, h10⟩ := h
    refine ⟨h0, h1, h2, h3, h4, h5, a, b, o, cap, e, h6, h7, h8, fun h => hS _ (h9 h), fun i hi => ?_⟩
    obtain ⟨x0, x1, x2, x3, g0, g1, g2, g3, g⟩ := h10 i hi
    have hb : S b := h9 (by omega)
    have hc : ∀ o', w'.cell? ⟨b, o', none⟩ = w.cell? ⟨b, o', none⟩ := fun o' => World.cell?_of_block (w := w) (hw b hb)
    exact ⟨x0, x1, x2, x3, by rw [hc]; exact g0, by rw [hc]; exact g1, by rw [hc]; exact g2, by rw [hc]; exact g3, RepG.on hS hw l[i] g⟩
  termination_by x => SizeOf.sizeOf x
  decreasing_by
    have := List.sizeOf_lt_of_mem (List.getElem_mem hi)
    simp only [V.mk.sizeOf_spec]
    omega
theorem RepLG.on {S S' : Nat → Prop} {w w' : World} (hS : ∀ k, S k → S' k) (hw : ∀ k, S k → w'.heap[k]? = w.heap[k]?) {l : List V} {v : Value} (h : RepLG S w l v) : RepLG S' w' l v := by
  obtain ⟨a, b, o, cap, e, h6, h7, h8, h9, h10⟩ := h
  refine ⟨a, b, o, cap, e, h6, h7, h8, fun h => hS _ (h9 h), fun i hi => ?_⟩
  obtain ⟨x0, x1, x2, x3, g0, g1, g2, g3, g⟩ := h10 i hi
  have hb : S b := h9 (by omega)
  have hc : ∀ o', w'.cell? ⟨b, o', none⟩ = w.cell? ⟨b, o', none⟩ := fun o' => World.cell?_of_block (w := w) (hw b hb)
  exact ⟨x0, x1, x2, x3, by rw [hc]; exact g0, by rw [hc]; exact g1, by rw [hc]; exact g2, by rw [hc]; exact g3, RepG.on hS hw l[i] g⟩

theorem RepV.below {B : Nat} {w w' : World} (hw : ∀ k, k < B → w'.heap[k]? = w.heap[k]?) (x : V) {c0 c1 c2 c3 : Value} (h : RepV B w x c0 c1 c2 c3) : RepV B w' x c0 c1 c2 c3 := RepG.on (fun _ h => h) hw x h
theorem RepV.up {B B' : Nat} {w : World} (hB : B ≤ B') (x : V) {c0 c1 c2 c3 : Value} (h : RepV B w x c0 c1 c2 c3) : RepV B' w x c0 c1 c2 c3 := RepG.on (fun _ h => Nat.lt_of_lt_of_le h hB) (fun _ _ => rfl) x h
theorem RepL.below {B : Nat} {w w' : World} (hw : ∀ k, k < B → w'.heap[k]? = w.heap[k]?) {l : List V} {v : Value} (h : RepL B w l v) : RepL B w' l v := RepLG.on (fun _ h => h) hw h
theorem RepL.up {B B' : Nat} {w : World} (hB : B ≤ B') {l : List V} {v : Value} (h : RepL B w l v) : RepL B' w l v := RepLG.on (fun _ h => Nat.lt_of_lt_of_le h hB) (fun _ _ => rfl) h

/-- A block's cells, four by four, hold the values of a list. -/
def RepRow (S : Nat → Prop) (w : World) (l : List V) (cur : Array Value) : Prop :=
  ∀ i (h : i < l.length), ∃ x0 x1 x2 x3 : Value, cur[i * 4]? = some x0 ∧ cur[i * 4 + 1]? = some x1 ∧ cur[i * 4 + 2]? = some x2 ∧ cur[i * 4 + 3]? = some x3 ∧ RepG S w l[i] x0 x1 x2 x3
theorem RepRow.on {S S' : Nat → Prop} {w w' : World} {l : List V} {cur : Array Value} (h : RepRow S w l cur) (hS : ∀ k, S k → S' k) (hw : ∀ k, S k → w'.heap[k]? = w.heap[k]?) : RepRow S' w' l cur := fun i hi => by
  obtain ⟨x0, x1, x2, x3, g0, g1, g2, g3, g⟩ := h i hi
  exact ⟨x0, x1, x2, x3, g0, g1, g2, g3, RepG.on hS hw _ g⟩
/-- One more element is laid. -/
def put4 (cur : Array Value) (i : Nat) (x0 x1 x2 x3 : Value) : Array Value := (((cur.setIfInBounds i x0).setIfInBounds (i + 1) x1).setIfInBounds (i + 2) x2).setIfInBounds (i + 3) x3
theorem put4_size (cur : Array Value) (i : Nat) (x0 x1 x2 x3 : Value) : (put4 cur i x0 x1 x2 x3).size = cur.size := by simp [put4]
theorem RepRow.snoc {S : Nat → Prop} {w : World} {l : List V} {cur : Array Value} (h : RepRow S w l cur) {x : V} {x0 x1 x2 x3 : Value} (hx : RepG S w x x0 x1 x2 x3) (hsz : l.length * 4 + 4 ≤ cur.size) : RepRow S w (l ++ [x]) (put4 cur (l.length * 4) x0 x1 x2 x3) := by
  intro i hi
  by_cases e : i < l.length
  · obtain ⟨y0, y1, y2, y3, g0, g1, g2, g3, g⟩ := h i e
    refine ⟨y0, y1, y2, y3, ?_, ?_, ?_, ?_, by rw [List.getElem_append_left e]; exact g⟩ <;>
    · simp only [put4, Array.getElem?_setIfInBounds]
      rw [if_neg (by omega), if_neg (by omega), if_neg (by omega), if_neg (by omega)]
      assumption
  · simp only [List.length_append, List.length_cons, List.length_nil] at hi
    obtain rfl : i = l.length := by omega
    refine ⟨x0, x1, x2, x3, ?_, ?_, ?_, ?_, by simpa using hx⟩ <;> simp only [put4, Array.getElem?_setIfInBounds, Array.size_setIfInBounds]
    · rw [if_neg (by omega), if_neg (by omega), if_neg (by omega), if_pos trivial, if_pos (by omega)]
    · rw [if_neg (by omega), if_neg (by omega), if_pos trivial, if_pos (by omega)]
    · rw [if_neg (by omega), if_pos trivial, if_pos (by omega)]
    · rw [if_pos trivial, if_pos (by omega)]
/-- A whole row is a slice. -/
theorem RepRow.slice {S : Nat → Prop} {w : World} {l : List V} {cur : Array Value} (h : RepRow S w l cur) {b : Nat} {t : TypeId} {fz : Nat × Nat} (hb : w.heap[b]? = some (.cells cur t fz)) (hS : S b) {cap : Nat} (hl : l.length ≤ cap) (hc : l.length * 56 ≤ 140737488355328) :
    RepLG S w l (.slice (some ⟨b, 0, none⟩) l.length cap) := by
  refine ⟨_, b, 0, cap, rfl, hl, hc, fun _ => rfl, fun _ => hS, fun i hi => ?_⟩
  obtain ⟨x0, x1, x2, x3, g0, g1, g2, g3, g⟩ := h i hi
  refine ⟨x0, x1, x2, x3, ?_, ?_, ?_, ?_, g⟩ <;> simp only [World.cell?, hb, Nat.zero_add] <;> assumption

end Go.Proofs.Ytkaiihoijcpldaa

/-
  Contracts of the library at this translation, laid in plain words by the kit's own commands: each is one application of a theorem that is proved once over any program.
-/
namespace Go.Proofs
open Go.Shelf
def Try.lays122_ren : Go.Shelf.Ren := ⟨fun | 122 => 99 | 215 => 102 | n => n, fun | 3 => 3 | 4 => 4 | n => n, fun | n => n⟩
theorem Try.lays122 : Go.Proofs.Lays.n122 Try.prog Try.lays122_ren := {
  mixed := by kernel_rfl
  f122 := Try.func99.trans (congrArg some (by kernel_rfl))
  f215 := Try.func102.trans (congrArg some (by kernel_rfl))
  t3 := Try.underlying3
  a3 := Try.isAgg3
  z3 := Try.sizeOf3
  v3 := Try.zeroValue3
  t4 := Try.underlying4
  a4 := Try.isAgg4
  z4 := Try.sizeOf4
  v4 := Try.zeroValue4 }
open Go.RowKit in
theorem Try.cmp_Compare_int (x y : Int) (w : World) :
    Calls Try.prog 99 #[.int .i64 x, .int .i64 y] w fun e w' => e = .returned (.int .i64 (Lib.compareInt x y)) ∧ w' = w := Any.cmp_Compare_int Try.lays122 x y w
end Go.Proofs

/-
  Blocks just laid, and their cells.
-/
namespace Go.Proofs.Ytkaiihoijcpldaa
open Go.RowKit

theorem infoValue : (Try.prog.info? 46).map (fun i => (i.zero, i.size, i.bytes)) = some (some (.agg #[.int .i64 0, .int .i64 0, .string ⟨#[]⟩, .slice none 0 0]), 4, 56) := by kernel_rfl

theorem alloc_new' (w : World) (o : Obj) : (w.alloc o).heap[w.heap.size]? = some o := by
  show (w.heap.push o)[w.heap.size]? = _
  simp

theorem cell_of_block' {w : World} {k i : Nat} {cs : Array Value} {t : TypeId} {fz : Nat × Nat} (h : w.heap[k]? = some (.cells cs t fz)) (v : Value) (hv : cs[i]? = some v) : w.cell? ⟨k, i, none⟩ = some v := by
  simp [World.cell?, h, hv]
theorem cell_some {w : World} {k i : Nat} {cs : Array Value} {t : TypeId} {fz : Nat × Nat} (h : w.heap[k]? = some (.cells cs t fz)) (hi : i < cs.size) : ∃ v, w.cell? ⟨k, i, none⟩ = some v :=
  ⟨cs[i], cell_of_block' h _ (Array.getElem?_eq_getElem hi)⟩

/-- The cells of one element. -/
theorem RepLG.at {S : Nat → Prop} {w : World} {l : List V} {a : Option Addr} {n cap : Nat} (h : RepLG S w l (.slice a n cap)) (i : Nat) (hi : i < l.length) :
    n = l.length ∧ l.length ≤ cap ∧ ∃ b o fa fc, a = some ⟨b, o, none⟩ ∧ S b ∧ w.cell? ⟨b, o + i * 4, none⟩ = some (.int .i64 l[i].kind) ∧ w.cell? ⟨b, o + i * 4 + 1, none⟩ = some (.int .i64 l[i].num) ∧ w.cell? ⟨b, o + i * 4 + 2, none⟩ = some (.string l[i].text) ∧
      w.cell? ⟨b, o + i * 4 + 3, none⟩ = some (.slice fa l[i].list.length fc) ∧ RepG S w l[i] (.int .i64 l[i].kind) (.int .i64 l[i].num) (.string l[i].text) (.slice fa l[i].list.length fc) := by
  obtain ⟨a', b, o, cap', e, h6, h7, h8, h9, h10⟩ := h
  cases e
  obtain ⟨x0, x1, x2, x3, g0, g1, g2, g3, g⟩ := h10 i hi
  obtain ⟨fa, fc, rfl, rfl, rfl, rfl⟩ := g.form
  exact ⟨rfl, h6, b, o, fa, fc, h8 (by omega), h9 (by omega), g0, g1, g2, g3, g⟩
theorem below_alloc (w : World) (o : Obj) : Below w.heap.size w (w.alloc o) := (Below.refl _ w).alloc (Nat.le_refl _) o

end Go.Proofs.Ytkaiihoijcpldaa

/-
  A value in a variable of its own.
-/
namespace Go.Proofs.Ytkaiihoijcpldaa
open Go.RowKit

/-- A value in a variable of its own. -/
def Boxed (w : World) (k : Nat) (c0 c1 c2 c3 : Value) : Prop := w.heap[k]? = some (.cells #[c0, c1, c2, c3] 46 (0, 0))
theorem Boxed.cells {w : World} {k : Nat} {c0 c1 c2 c3 : Value} (h : Boxed w k c0 c1 c2 c3) : w.cell? ⟨k, 0, none⟩ = some c0 ∧ w.cell? ⟨k, 1, none⟩ = some c1 ∧ w.cell? ⟨k, 2, none⟩ = some c2 ∧ w.cell? ⟨k, 3, none⟩ = some c3 :=
  ⟨cell_of_block' h _ rfl, cell_of_block' h _ rfl, cell_of_block' h _ rfl, cell_of_block' h _ rfl⟩
theorem Boxed.lt {w : World} {k : Nat} {c0 c1 c2 c3 : Value} (h : Boxed w k c0 c1 c2 c3) : k < w.heap.size := (Array.getElem?_eq_some_iff.1 h).1
theorem Boxed.on {w w' : World} {k : Nat} {c0 c1 c2 c3 : Value} (h : Boxed w k c0 c1 c2 c3) (hb : Below w.heap.size w w') : Boxed w' k c0 c1 c2 c3 := (hb.block k h.lt).trans h
theorem boxed_new (w : World) (c0 c1 c2 c3 : Value) : Boxed (w.alloc (.cells #[c0, c1, c2, c3] 46)) w.heap.size c0 c1 c2 c3 := alloc_new' _ _
theorem RepV.on {B : Nat} {w w' : World} (hb : Below w.heap.size w w') (hB : B ≤ w.heap.size) {x : V} {c0 c1 c2 c3 : Value} (h : RepV B w x c0 c1 c2 c3) : RepV B w' x c0 c1 c2 c3 := RepV.below (fun j hj => hb.block j (by omega)) _ h
theorem Below.step {w w1 w2 : World} (h : Below w.heap.size w w1) (h' : Below w1.heap.size w1 w2) : Below w.heap.size w w2 := h.trans (h'.mono h.size)


end Go.Proofs.Ytkaiihoijcpldaa

/-
  Terms, literals, rules, facts and programs as plain data, and what cells hold them. No program is named here.
-/
namespace Go.Proofs.Ytkaiihoijcpldaa
open Go.RowKit

/-- A slice whose elements lie in n cells each, 'bytes' bytes each. -/
def SlG {α : Type} (S : Nat → Prop) (w : World) (n bytes : Nat) (R : α → (Nat → Value) → Prop) (l : List α) (v : Value) : Prop :=
  ∃ (a : Option Addr) (b o cap : Nat), v = .slice a l.length cap ∧ l.length ≤ cap ∧ l.length * bytes ≤ 140737488355328 ∧ (0 < cap → a = some ⟨b, o, none⟩) ∧ (0 < l.length → S b) ∧
    ∀ i (h : i < l.length), ∃ c : Nat → Value, (∀ j, j < n → w.cell? ⟨b, o + i * n + j, none⟩ = some (c j)) ∧ R l[i] c
theorem SlG.on {α : Type} {S S' : Nat → Prop} {w w' : World} {n bytes : Nat} {R R' : α → (Nat → Value) → Prop} {l : List α} {v : Value} (hS : ∀ k, S k → S' k) (hw : ∀ k, S k → w'.heap[k]? = w.heap[k]?) (hR : ∀ x ∈ l, ∀ c, R x c → R' x c) (h : SlG S w n bytes R l v) : SlG S' w' n bytes R' l v := by
  obtain ⟨a, b, o, cap, e, h6, h7, h8, h9, h10⟩ := h
  refine ⟨a, b, o, cap, e, h6, h7, h8, fun h => hS _ (h9 h), fun i hi => ?_⟩
  obtain ⟨c, hc, hr⟩ := h10 i hi
  have hb : S b := h9 (by omega)
  exact ⟨c, fun j hj => (World.cell?_of_block (w := w) (hw b hb)).trans (hc j hj), hR _ (List.getElem_mem hi) c hr⟩
theorem SlG.form {α : Type} {S : Nat → Prop} {w : World} {n bytes : Nat} {R : α → (Nat → Value) → Prop} {l : List α} {v : Value} (h : SlG S w n bytes R l v) : ∃ (a : Option Addr) (cap : Nat), v = .slice a l.length cap := by
  obtain ⟨a, b, o, cap, e, -⟩ := h
  exact ⟨a, cap, e⟩
theorem SlG.at {α : Type} {S : Nat → Prop} {w : World} {n bytes : Nat} {R : α → (Nat → Value) → Prop} {l : List α} {a : Option Addr} {len cap : Nat} (h : SlG S w n bytes R l (.slice a len cap)) (i : Nat) (hi : i < l.length) :
    len = l.length ∧ l.length ≤ cap ∧ ∃ (b o : Nat), a = some ⟨b, o, none⟩ ∧ S b ∧ ∃ c : Nat → Value, (∀ j, j < n → w.cell? ⟨b, o + i * n + j, none⟩ = some (c j)) ∧ R l[i] c := by
  obtain ⟨a', b, o, cap', e, h6, h7, h8, h9, h10⟩ := h
  cases e
  exact ⟨rfl, h6, b, o, h8 (by omega), h9 (by omega), h10 i hi⟩
theorem SlG.bytes {α : Type} {S : Nat → Prop} {w : World} {n bytes : Nat} {R : α → (Nat → Value) → Prop} {l : List α} {v : Value} (h : SlG S w n bytes R l v) : l.length * bytes ≤ 140737488355328 := by
  obtain ⟨a, b, o, cap, e, h6, h7, -⟩ := h
  exact h7

inductive Tm where
  | mk (kind : Int) (name : ByteArray) (val : V) (args : List Tm) : Tm
namespace Tm
def kind : Tm → Int | mk k _ _ _ => k
def name : Tm → ByteArray | mk _ s _ _ => s
def val : Tm → V | mk _ _ x _ => x
def args : Tm → List Tm | mk _ _ _ l => l
end Tm

/-- Seven cells hold a term. -/
def RepM (S : Nat → Prop) (w : World) : Tm → Value → Value → Value → Value → Value → Value → Value → Prop
  | .mk k s x l, c0, c1, c2, c3, c4, c5, c6 => c0 = .int .i64 k ∧ c1 = .string s ∧ I64 k ∧ s.size ≤ maxLen ∧ RepG S w x c2 c3 c4 c5 ∧
      ∃ (a : Option Addr) (b o cap : Nat), c6 = .slice a l.length cap ∧ l.length ≤ cap ∧ l.length * 104 ≤ 140737488355328 ∧ (0 < cap → a = some ⟨b, o, none⟩) ∧ (0 < l.length → S b) ∧
        ∀ i (h : i < l.length), ∃ c : Nat → Value, (∀ j, j < 7 → w.cell? ⟨b, o + i * 7 + j, none⟩ = some (c j)) ∧ RepM S w l[i] (c 0) (c 1) (c 2) (c 3) (c 4) (c 5) (c 6)
  termination_by x => SizeOf.sizeOf x
  decreasing_by
    have := List.sizeOf_lt_of_mem (List.getElem_mem h)
    simp only [Tm.mk.sizeOf_spec]
    omega
/-- A slice of terms. -/
def RepMs (S : Nat → Prop) (w : World) (l : List Tm) (v : Value) : Prop := SlG S w 7 104 (fun x c => RepM S w x (c 0) (c 1) (c 2) (c 3) (c 4) (c 5) (c 6)) l v
theorem repM_mk {S : Nat → Prop} {w : World} {k : Int} {s : ByteArray} {x : V} {l : List Tm} {c0 c1 c2 c3 c4 c5 c6 : Value} :
    RepM S w (.mk k s x l) c0 c1 c2 c3 c4 c5 c6 ↔ (c0 = .int .i64 k ∧ c1 = .string s ∧ I64 k ∧ s.size ≤ maxLen ∧ RepG S w x c2 c3 c4 c5 ∧ RepMs S w l c6) := by
  rw [RepM]; rfl
theorem RepM.on {S S' : Nat → Prop} {w w' : World} (hS : ∀ k, S k → S' k) (hw : ∀ k, S k → w'.heap[k]? = w.heap[k]?) : ∀ (x : Tm) {c0 c1 c2 c3 c4 c5 c6 : Value}, RepM S w x c0 c1 c2 c3 c4 c5 c6 → RepM S' w' x c0 c1 c2 c3 c4 c5 c6
  | .mk k s x l, c0, c1, c2, c3, c4, c5, c6, h => by
    rw [repM_mk] at h ⊢
    obtain ⟨h0, h1, h2, h3, h4, a, b, o, cap, e, h6, h7, h8, h9, h10⟩ := h
    refine ⟨h0, h1, h2, h3, RepG.on hS hw x h4, a, b, o, cap, e, h6, h7, h8, fun h => hS _ (h9 h), fun i hi => ?_⟩
    obtain ⟨c, hc, hr⟩ := h10 i hi
    have hb : S b := h9 (by omega)
    exact ⟨c, fun j hj => (World.cell?_of_block (w := w) (hw b hb)).trans (hc j hj), RepM.on hS hw l[i] hr⟩
  termination_by x => SizeOf.sizeOf x
  decreasing_by
    have := List.sizeOf_lt_of_mem (List.getElem_mem hi)
    simp only [Tm.mk.sizeOf_spec]
    omega
theorem RepMs.on {S S' : Nat → Prop} {w w' : World} (hS : ∀ k, S k → S' k) (hw : ∀ k, S k → w'.heap[k]? = w.heap[k]?) {l : List Tm} {v : Value} (h : RepMs S w l v) : RepMs S' w' l v :=
  SlG.on hS hw (fun x _ _ hx => RepM.on hS hw x hx) h
theorem RepM.form {S : Nat → Prop} {w : World} {x : Tm} {c0 c1 c2 c3 c4 c5 c6 : Value} (h : RepM S w x c0 c1 c2 c3 c4 c5 c6) :
    ∃ (fa : Option Addr) (fc : Nat) (ga : Option Addr) (gc : Nat), c0 = .int .i64 x.kind ∧ c1 = .string x.name ∧ c2 = .int .i64 x.val.kind ∧ c3 = .int .i64 x.val.num ∧ c4 = .string x.val.text ∧ c5 = .slice fa x.val.list.length fc ∧ c6 = .slice ga x.args.length gc := by
  cases x with
  | mk k s x l =>
    rw [repM_mk] at h
    obtain ⟨h0, h1, -, -, h4, h5⟩ := h
    obtain ⟨fa, fc, e2, e3, e4, e5⟩ := h4.form
    obtain ⟨ga, gc, e6⟩ := SlG.form h5
    exact ⟨fa, fc, ga, gc, h0, h1, e2, e3, e4, e5, e6⟩
theorem RepM.value {S : Nat → Prop} {w : World} {x : Tm} {c0 c1 c2 c3 c4 c5 c6 : Value} (h : RepM S w x c0 c1 c2 c3 c4 c5 c6) : RepG S w x.val c2 c3 c4 c5 := by
  cases x with
  | mk k s x l => exact (repM_mk.1 h).2.2.2.2.1
theorem RepM.lst {S : Nat → Prop} {w : World} {x : Tm} {c0 c1 c2 c3 c4 c5 c6 : Value} (h : RepM S w x c0 c1 c2 c3 c4 c5 c6) : RepMs S w x.args c6 := by
  cases x with
  | mk k s x l => exact (repM_mk.1 h).2.2.2.2.2
theorem RepM.bounds {S : Nat → Prop} {w : World} {x : Tm} {c0 c1 c2 c3 c4 c5 c6 : Value} (h : RepM S w x c0 c1 c2 c3 c4 c5 c6) : I64 x.kind ∧ x.name.size ≤ maxLen := by
  cases x with
  | mk k s x l => exact ⟨(repM_mk.1 h).2.2.1, (repM_mk.1 h).2.2.2.1⟩

/-- A term where it lies. -/
def TmAt (S : Nat → Prop) (w : World) (x : Tm) (fa : Option Addr) (fc : Nat) (ga : Option Addr) (gc : Nat) : Prop :=
  RepM S w x (.int .i64 x.kind) (.string x.name) (.int .i64 x.val.kind) (.int .i64 x.val.num) (.string x.val.text) (.slice fa x.val.list.length fc) (.slice ga x.args.length gc)
theorem RepMs.at {S : Nat → Prop} {w : World} {l : List Tm} {a : Option Addr} {len cap : Nat} (h : RepMs S w l (.slice a len cap)) (i : Nat) (hi : i < l.length) :
    len = l.length ∧ l.length ≤ cap ∧ ∃ (b o : Nat) (fa : Option Addr) (fc : Nat) (ga : Option Addr) (gc : Nat), a = some ⟨b, o, none⟩ ∧ S b ∧
      w.cell? ⟨b, o + i * 7, none⟩ = some (.int .i64 l[i].kind) ∧ w.cell? ⟨b, o + i * 7 + 1, none⟩ = some (.string l[i].name) ∧ w.cell? ⟨b, o + i * 7 + 2, none⟩ = some (.int .i64 l[i].val.kind) ∧ w.cell? ⟨b, o + i * 7 + 3, none⟩ = some (.int .i64 l[i].val.num) ∧
      w.cell? ⟨b, o + i * 7 + 4, none⟩ = some (.string l[i].val.text) ∧ w.cell? ⟨b, o + i * 7 + 5, none⟩ = some (.slice fa l[i].val.list.length fc) ∧ w.cell? ⟨b, o + i * 7 + 6, none⟩ = some (.slice ga l[i].args.length gc) ∧ TmAt S w l[i] fa fc ga gc := by
  obtain ⟨h1, h2, b, o, h3, h4, c, hc, hr⟩ := SlG.at h i hi
  obtain ⟨fa, fc, ga, gc, e0, e1, e2, e3, e4, e5, e6⟩ := hr.form
  rw [e0, e1, e2, e3, e4, e5, e6] at hr
  exact ⟨h1, h2, b, o, fa, fc, ga, gc, h3, h4, by rw [← e0]; exact hc 0 (by omega), by rw [← e1]; exact hc 1 (by omega), by rw [← e2]; exact hc 2 (by omega), by rw [← e3]; exact hc 3 (by omega), by rw [← e4]; exact hc 4 (by omega), by rw [← e5]; exact hc 5 (by omega), by rw [← e6]; exact hc 6 (by omega), hr⟩

/-- Literals. -/
structure Li where
  kind : Int
  name : ByteArray
  args : List Tm
def RepLi (S : Nat → Prop) (w : World) (x : Li) (c0 c1 c2 : Value) : Prop := c0 = .int .i64 x.kind ∧ c1 = .string x.name ∧ I64 x.kind ∧ x.name.size ≤ maxLen ∧ RepMs S w x.args c2
def RepLis (S : Nat → Prop) (w : World) (l : List Li) (v : Value) : Prop := SlG S w 3 48 (fun x c => RepLi S w x (c 0) (c 1) (c 2)) l v
/-- Rules. -/
structure Ru where
  label : ByteArray
  head : ByteArray
  args : List Tm
  agg : ByteArray
  at' : Int
  body : List Li
def RepRu (S : Nat → Prop) (w : World) (x : Ru) (c0 c1 c2 c3 c4 c5 : Value) : Prop := c0 = .string x.label ∧ c1 = .string x.head ∧ c3 = .string x.agg ∧ c4 = .int .i64 x.at' ∧ x.label.size ≤ maxLen ∧ x.head.size ≤ maxLen ∧ x.agg.size ≤ maxLen ∧ I64 x.at' ∧ RepMs S w x.args c2 ∧ RepLis S w x.body c5
def RepRus (S : Nat → Prop) (w : World) (l : List Ru) (v : Value) : Prop := SlG S w 6 104 (fun x c => RepRu S w x (c 0) (c 1) (c 2) (c 3) (c 4) (c 5)) l v
/-- Relations that are told. -/
structure De where
  name : ByteArray
  arity : Int
def RepDe (_S : Nat → Prop) (_w : World) (x : De) (c0 c1 : Value) : Prop := c0 = .string x.name ∧ c1 = .int .i64 x.arity ∧ x.name.size ≤ maxLen ∧ I64 x.arity
def RepDes (S : Nat → Prop) (w : World) (l : List De) (v : Value) : Prop := SlG S w 2 24 (fun x c => RepDe S w x (c 0) (c 1)) l v
/-- Facts. -/
structure Fa where
  name : ByteArray
  args : List V
def RepFa (S : Nat → Prop) (w : World) (x : Fa) (c0 c1 : Value) : Prop := c0 = .string x.name ∧ x.name.size ≤ maxLen ∧ RepLG S w x.args c1
def RepFas (S : Nat → Prop) (w : World) (l : List Fa) (v : Value) : Prop := SlG S w 2 40 (fun x c => RepFa S w x (c 0) (c 1)) l v
/-- Programs. -/
structure Pr where
  decls : List De
  facts : List Fa
  rules : List Ru
def RepPr (S : Nat → Prop) (w : World) (x : Pr) (c0 c1 c2 : Value) : Prop := RepDes S w x.decls c0 ∧ RepFas S w x.facts c1 ∧ RepRus S w x.rules c2

section
variable {S S' : Nat → Prop} {w w' : World} (hS : ∀ k, S k → S' k) (hw : ∀ k, S k → w'.heap[k]? = w.heap[k]?)
include hS hw
theorem RepLi.on {x : Li} {c0 c1 c2 : Value} (h : RepLi S w x c0 c1 c2) : RepLi S' w' x c0 c1 c2 := ⟨h.1, h.2.1, h.2.2.1, h.2.2.2.1, RepMs.on hS hw h.2.2.2.2⟩
theorem RepLis.on {l : List Li} {v : Value} (h : RepLis S w l v) : RepLis S' w' l v := SlG.on hS hw (fun _ _ _ hx => RepLi.on hS hw hx) h
theorem RepRu.on {x : Ru} {c0 c1 c2 c3 c4 c5 : Value} (h : RepRu S w x c0 c1 c2 c3 c4 c5) : RepRu S' w' x c0 c1 c2 c3 c4 c5 := by
  obtain ⟨h0, h1, h2, h3, h4, h5, h6, h7, h8, h9⟩ := h
  exact ⟨h0, h1, h2, h3, h4, h5, h6, h7, RepMs.on hS hw h8, RepLis.on hS hw h9⟩
theorem RepRus.on {l : List Ru} {v : Value} (h : RepRus S w l v) : RepRus S' w' l v := SlG.on hS hw (fun _ _ _ hx => RepRu.on hS hw hx) h
theorem RepDes.on {l : List De} {v : Value} (h : RepDes S w l v) : RepDes S' w' l v := SlG.on hS hw (fun _ _ _ hx => hx) h
theorem RepFa.on {x : Fa} {c0 c1 : Value} (h : RepFa S w x c0 c1) : RepFa S' w' x c0 c1 := ⟨h.1, h.2.1, RepLG.on hS hw h.2.2⟩
theorem RepFas.on {l : List Fa} {v : Value} (h : RepFas S w l v) : RepFas S' w' l v := SlG.on hS hw (fun _ _ _ hx => RepFa.on hS hw hx) h
theorem RepPr.on {x : Pr} {c0 c1 c2 : Value} (h : RepPr S w x c0 c1 c2) : RepPr S' w' x c0 c1 c2 := ⟨RepDes.on hS hw h.1, RepFas.on hS hw h.2.1, RepRus.on hS hw h.2.2⟩
end

end Go.Proofs.Ytkaiihoijcpldaa

/-
  Terms, literals, rules, facts and relations in a variable of their own.
-/
namespace Go.Proofs.Ytkaiihoijcpldaa
open Go.RowKit

theorem frozen_new {w : World} {k i : Nat} {cs : Array Value} {t : TypeId} (h : w.heap[k]? = some (.cells cs t (0, 0))) : w.frozen? ⟨k, i, none⟩ = false := frozen_of_row w k i cs t h

def BoxM (w : World) (k : Nat) (c0 c1 c2 c3 c4 c5 c6 : Value) : Prop := w.heap[k]? = some (.cells #[c0, c1, c2, c3, c4, c5, c6] 48 (0, 0))
theorem BoxM.cells {w : World} {k : Nat} {c0 c1 c2 c3 c4 c5 c6 : Value} (h : BoxM w k c0 c1 c2 c3 c4 c5 c6) : w.cell? ⟨k, 0, none⟩ = some c0 ∧ w.cell? ⟨k, 1, none⟩ = some c1 ∧ w.cell? ⟨k, 2, none⟩ = some c2 ∧ w.cell? ⟨k, 3, none⟩ = some c3 ∧ w.cell? ⟨k, 4, none⟩ = some c4 ∧ w.cell? ⟨k, 5, none⟩ = some c5 ∧ w.cell? ⟨k, 6, none⟩ = some c6 :=
  ⟨cell_of_block' h _ rfl, cell_of_block' h _ rfl, cell_of_block' h _ rfl, cell_of_block' h _ rfl, cell_of_block' h _ rfl, cell_of_block' h _ rfl, cell_of_block' h _ rfl⟩
theorem BoxM.lt {w : World} {k : Nat} {c0 c1 c2 c3 c4 c5 c6 : Value} (h : BoxM w k c0 c1 c2 c3 c4 c5 c6) : k < w.heap.size := (Array.getElem?_eq_some_iff.1 h).1
theorem BoxM.on {w w' : World} {k : Nat} {c0 c1 c2 c3 c4 c5 c6 : Value} (h : BoxM w k c0 c1 c2 c3 c4 c5 c6) (hb : Below w.heap.size w w') : BoxM w' k c0 c1 c2 c3 c4 c5 c6 := (hb.block k h.lt).trans h
theorem boxM_new (w : World) (c0 c1 c2 c3 c4 c5 c6 : Value) : BoxM (w.alloc (.cells #[c0, c1, c2, c3, c4, c5, c6] 48)) w.heap.size c0 c1 c2 c3 c4 c5 c6 := alloc_new' _ _

def BoxLi (w : World) (k : Nat) (c0 c1 c2 : Value) : Prop := w.heap[k]? = some (.cells #[c0, c1, c2] 42 (0, 0))
theorem BoxLi.cells {w : World} {k : Nat} {c0 c1 c2 : Value} (h : BoxLi w k c0 c1 c2) : w.cell? ⟨k, 0, none⟩ = some c0 ∧ w.cell? ⟨k, 1, none⟩ = some c1 ∧ w.cell? ⟨k, 2, none⟩ = some c2 :=
  ⟨cell_of_block' h _ rfl, cell_of_block' h _ rfl, cell_of_block' h _ rfl⟩
theorem BoxLi.lt {w : World} {k : Nat} {c0 c1 c2 : Value} (h : BoxLi w k c0 c1 c2) : k < w.heap.size := (Array.getElem?_eq_some_iff.1 h).1
theorem BoxLi.on {w w' : World} {k : Nat} {c0 c1 c2 : Value} (h : BoxLi w k c0 c1 c2) (hb : Below w.heap.size w w') : BoxLi w' k c0 c1 c2 := (hb.block k h.lt).trans h
theorem boxLi_new (w : World) (c0 c1 c2 : Value) : BoxLi (w.alloc (.cells #[c0, c1, c2] 42)) w.heap.size c0 c1 c2 := alloc_new' _ _

def BoxRu (w : World) (k : Nat) (c0 c1 c2 c3 c4 c5 : Value) : Prop := w.heap[k]? = some (.cells #[c0, c1, c2, c3, c4, c5] 39 (0, 0))
theorem BoxRu.cells {w : World} {k : Nat} {c0 c1 c2 c3 c4 c5 : Value} (h : BoxRu w k c0 c1 c2 c3 c4 c5) : w.cell? ⟨k, 0, none⟩ = some c0 ∧ w.cell? ⟨k, 1, none⟩ = some c1 ∧ w.cell? ⟨k, 2, none⟩ = some c2 ∧ w.cell? ⟨k, 3, none⟩ = some c3 ∧ w.cell? ⟨k, 4, none⟩ = some c4 ∧ w.cell? ⟨k, 5, none⟩ = some c5 :=
  ⟨cell_of_block' h _ rfl, cell_of_block' h _ rfl, cell_of_block' h _ rfl, cell_of_block' h _ rfl, cell_of_block' h _ rfl, cell_of_block' h _ rfl⟩
theorem BoxRu.lt {w : World} {k : Nat} {c0 c1 c2 c3 c4 c5 : Value} (h : BoxRu w k c0 c1 c2 c3 c4 c5) : k < w.heap.size := (Array.getElem?_eq_some_iff.1 h).1
theorem BoxRu.on {w w' : World} {k : Nat} {c0 c1 c2 c3 c4 c5 : Value} (h : BoxRu w k c0 c1 c2 c3 c4 c5) (hb : Below w.heap.size w w') : BoxRu w' k c0 c1 c2 c3 c4 c5 := (hb.block k h.lt).trans h
theorem boxRu_new (w : World) (c0 c1 c2 c3 c4 c5 : Value) : BoxRu (w.alloc (.cells #[c0, c1, c2, c3, c4, c5] 39)) w.heap.size c0 c1 c2 c3 c4 c5 := alloc_new' _ _

def BoxDe (w : World) (k : Nat) (c0 c1 : Value) : Prop := w.heap[k]? = some (.cells #[c0, c1] 62 (0, 0))
theorem BoxDe.cells {w : World} {k : Nat} {c0 c1 : Value} (h : BoxDe w k c0 c1) : w.cell? ⟨k, 0, none⟩ = some c0 ∧ w.cell? ⟨k, 1, none⟩ = some c1 :=
  ⟨cell_of_block' h _ rfl, cell_of_block' h _ rfl⟩
theorem BoxDe.lt {w : World} {k : Nat} {c0 c1 : Value} (h : BoxDe w k c0 c1) : k < w.heap.size := (Array.getElem?_eq_some_iff.1 h).1
theorem BoxDe.on {w w' : World} {k : Nat} {c0 c1 : Value} (h : BoxDe w k c0 c1) (hb : Below w.heap.size w w') : BoxDe w' k c0 c1 := (hb.block k h.lt).trans h
theorem boxDe_new (w : World) (c0 c1 : Value) : BoxDe (w.alloc (.cells #[c0, c1] 62)) w.heap.size c0 c1 := alloc_new' _ _

def BoxFa (w : World) (k : Nat) (c0 c1 : Value) : Prop := w.heap[k]? = some (.cells #[c0, c1] 56 (0, 0))
theorem BoxFa.cells {w : World} {k : Nat} {c0 c1 : Value} (h : BoxFa w k c0 c1) : w.cell? ⟨k, 0, none⟩ = some c0 ∧ w.cell? ⟨k, 1, none⟩ = some c1 :=
  ⟨cell_of_block' h _ rfl, cell_of_block' h _ rfl⟩
theorem BoxFa.lt {w : World} {k : Nat} {c0 c1 : Value} (h : BoxFa w k c0 c1) : k < w.heap.size := (Array.getElem?_eq_some_iff.1 h).1
theorem BoxFa.on {w w' : World} {k : Nat} {c0 c1 : Value} (h : BoxFa w k c0 c1) (hb : Below w.heap.size w w') : BoxFa w' k c0 c1 := (hb.block k h.lt).trans h
theorem boxFa_new (w : World) (c0 c1 : Value) : BoxFa (w.alloc (.cells #[c0, c1] 56)) w.heap.size c0 c1 := alloc_new' _ _

def BoxPr (w : World) (k : Nat) (c0 c1 c2 : Value) : Prop := w.heap[k]? = some (.cells #[c0, c1, c2] 29 (0, 0))
theorem BoxPr.cells {w : World} {k : Nat} {c0 c1 c2 : Value} (h : BoxPr w k c0 c1 c2) : w.cell? ⟨k, 0, none⟩ = some c0 ∧ w.cell? ⟨k, 1, none⟩ = some c1 ∧ w.cell? ⟨k, 2, none⟩ = some c2 :=
  ⟨cell_of_block' h _ rfl, cell_of_block' h _ rfl, cell_of_block' h _ rfl⟩
theorem BoxPr.lt {w : World} {k : Nat} {c0 c1 c2 : Value} (h : BoxPr w k c0 c1 c2) : k < w.heap.size := (Array.getElem?_eq_some_iff.1 h).1
theorem BoxPr.on {w w' : World} {k : Nat} {c0 c1 c2 : Value} (h : BoxPr w k c0 c1 c2) (hb : Below w.heap.size w w') : BoxPr w' k c0 c1 c2 := (hb.block k h.lt).trans h
theorem boxPr_new (w : World) (c0 c1 c2 : Value) : BoxPr (w.alloc (.cells #[c0, c1, c2] 29)) w.heap.size c0 c1 c2 := alloc_new' _ _


end Go.Proofs.Ytkaiihoijcpldaa

/-
  Values without a list within.
-/
namespace Go.Proofs.Ytkaiihoijcpldaa
open Go.RowKit

theorem flat_rep (S : Nat → Prop) (w : World) (k n : Int) (s : ByteArray) (hk : I64 k) (hn : I64 n) (hs : s.size ≤ maxLen) : RepG S w (.mk k n s []) (.int .i64 k) (.int .i64 n) (.string s) (.slice none 0 0) :=
  repG_mk.2 ⟨rfl, rfl, rfl, hk, hn, hs, none, 0, 0, 0, rfl, Nat.le_refl _, by simp, fun h => by omega, fun h => by simp at h, fun i hi => by simp at hi⟩

end Go.Proofs.Ytkaiihoijcpldaa

/-
  Rows just laid; blocks laid one behind the other; small terms.
-/
namespace Go.Proofs.Ytkaiihoijcpldaa
open Go.RowKit

theorem allocs_at : ∀ (os : List Obj) (w : World) (i : Nat), i < os.length → (os.foldl World.alloc w).heap[w.heap.size + i]? = os[i]?
  | [], _, i, h => by simp at h
  | x :: os, w, 0, _ => by
    have key : ∀ (os : List Obj) (w : World) (k : Nat), k < w.heap.size → (os.foldl World.alloc w).heap[k]? = w.heap[k]? := by
      intro os
      induction os with
      | nil => intro w k _; rfl
      | cons y os ih =>
        intro w k hk
        rw [List.foldl_cons, ih _ _ (by simp; omega), Below.heap_alloc _ _ _ hk]
    rw [List.foldl_cons, key _ _ _ (by simp)]
    exact alloc_new' w x
  | x :: os, w, i + 1, h => by
    have := allocs_at os (w.alloc x) i (by simpa using h)
    rw [World.size_alloc, show w.heap.size + 1 + i = w.heap.size + (i + 1) by omega] at this
    rw [List.foldl_cons, this]; rfl
theorem allocs_size : ∀ (os : List Obj) (w : World), (os.foldl World.alloc w).heap.size = w.heap.size + os.length
  | [], _ => rfl
  | x :: os, w => by rw [List.foldl_cons, allocs_size os, World.size_alloc, List.length_cons]; omega
theorem allocs_below : ∀ (os : List Obj) (w : World) (B : Nat), B ≤ w.heap.size → Below B w (os.foldl World.alloc w)
  | [], w, B, _ => Below.refl B w
  | x :: os, w, B, h => by
    rw [List.foldl_cons]
    exact ((Below.refl B w).alloc h x).trans (allocs_below os (w.alloc x) B (by simp; omega))

/-- A row just laid, as a slice. -/
theorem slg_row {α : Type} {S : Nat → Prop} {w : World} {n bytes : Nat} {R : α → (Nat → Value) → Prop} {l : List α} {b : Nat} {cs : Array Value} {t : TypeId} {fz : Nat × Nat} (hb : w.heap[b]? = some (.cells cs t fz)) (hS : S b) (hsz : cs.size = l.length * n) (hby : l.length * bytes ≤ 140737488355328)
    (hR : ∀ i (h : i < l.length), R l[i] (fun j => cs.getD (i * n + j) undef)) : SlG S w n bytes R l (.slice (some ⟨b, 0, none⟩) l.length l.length) := by
  refine ⟨_, b, 0, l.length, rfl, Nat.le_refl _, hby, fun _ => rfl, fun _ => hS, fun i hi => ⟨_, fun j hj => ?_, hR i hi⟩⟩
  have hlt : i * n + j < cs.size := by
    have : (i + 1) * n ≤ l.length * n := Nat.mul_le_mul_right n hi
    rw [Nat.succ_mul] at this; omega
  rw [show 0 + i * n + j = i * n + j by omega]
  exact cell_of_block' hb _ (by simp [Array.getD, hlt])
theorem slg_nil {α : Type} {S : Nat → Prop} {w : World} {n bytes : Nat} {R : α → (Nat → Value) → Prop} : SlG S w n bytes R [] (.slice none 0 0) :=
  ⟨none, 0, 0, 0, rfl, Nat.le_refl _, by simp, fun h => by omega, fun h => by simp at h, fun i hi => by simp at hi⟩

def zV : V := .mk 0 0 ⟨#[]⟩ []
def exA : Tm := .mk 1 ⟨#[83]⟩ zV []
def exC : Tm := .mk 1 ⟨#[67]⟩ zV []
def ex1 : Tm := .mk 2 ⟨#[]⟩ (.mk 1 1 ⟨#[]⟩ []) []
def exO : Tm := .mk 4 ⟨#[43]⟩ zV [exC, ex1]
def exR : Ru := ⟨⟨#[114, 49]⟩, ⟨#[112]⟩, [exA, exC], ⟨#[109, 105, 110]⟩, 1, [⟨1, ⟨#[108]⟩, [exA, exC]⟩, ⟨3, ⟨#[60]⟩, [exO, ex1]⟩]⟩
def exP : Pr := ⟨[⟨⟨#[108]⟩, 2⟩], [], [exR]⟩
theorem small64 {n : Int} (h : 0 ≤ n ∧ n ≤ 100) : I64 n := ⟨by omega, by omega⟩
theorem zV_rep (S : Nat → Prop) (w : World) : RepG S w zV (.int .i64 0) (.int .i64 0) (.string ⟨#[]⟩) (.slice none 0 0) := flat_rep S w 0 0 ⟨#[]⟩ (small64 (by omega)) (small64 (by omega)) (by decide)
theorem exA_rep (S : Nat → Prop) (w : World) : RepM S w exA (.int .i64 1) (.string ⟨#[83]⟩) (.int .i64 0) (.int .i64 0) (.string ⟨#[]⟩) (.slice none 0 0) (.slice none 0 0) := repM_mk.2 ⟨rfl, rfl, small64 (by omega), by decide, zV_rep S w, slg_nil⟩
theorem exC_rep (S : Nat → Prop) (w : World) : RepM S w exC (.int .i64 1) (.string ⟨#[67]⟩) (.int .i64 0) (.int .i64 0) (.string ⟨#[]⟩) (.slice none 0 0) (.slice none 0 0) := repM_mk.2 ⟨rfl, rfl, small64 (by omega), by decide, zV_rep S w, slg_nil⟩
theorem ex1_rep (S : Nat → Prop) (w : World) : RepM S w ex1 (.int .i64 2) (.string ⟨#[]⟩) (.int .i64 1) (.int .i64 1) (.string ⟨#[]⟩) (.slice none 0 0) (.slice none 0 0) := repM_mk.2 ⟨rfl, rfl, small64 (by omega), by decide, flat_rep S w 1 1 ⟨#[]⟩ (small64 (by omega)) (small64 (by omega)) (by decide), slg_nil⟩
theorem zT_rep (S : Nat → Prop) (w : World) : RepM S w (.mk 0 ⟨#[]⟩ zV []) (.int .i64 0) (.string ⟨#[]⟩) (.int .i64 0) (.int .i64 0) (.string ⟨#[]⟩) (.slice none 0 0) (.slice none 0 0) := repM_mk.2 ⟨rfl, rfl, small64 (by omega), by decide, zV_rep S w, slg_nil⟩

end Go.Proofs.Ytkaiihoijcpldaa

/-
  The law's own 'pick': which of n things a raw number speaks of.
-/
namespace Go.Proofs.Ytkaiihoijcpldaa
open Go.RowKit

def pickZ (c n : Int) : Int := (if c < 0 then -(c + 1) else c) % n
theorem pickZ_bd (c n : Int) (h : 0 < n) : 0 ≤ pickZ c n ∧ pickZ c n < n := ⟨Int.emod_nonneg _ (by omega), Int.emod_lt_of_pos _ h⟩

theorem ret_int' {k : IntKind} {a b : Int} (h : a = b) : Ending.returned (.int k a) = .returned (.int k b) := by rw [h]

theorem pick_any (c n : Int) (w : World) (hc : I64 c) (hn : 1 ≤ n) (hn2 : n ≤ 9223372036854775807) :
    Calls Try.prog 59 #[.int .i64 c, .int .i64 n] w fun e w' => e = .returned (.int .i64 (pickZ c n)) ∧ w = w' := by
  obtain ⟨h1, h2⟩ := hc
  by_cases h : c < 0
  · have HF : Hid (pickZ c n = (-(c + 1)) % n) := by show _ = _; rw [pickZ, if_pos h]
    have h3 : 0 ≤ -(c + 1) := by omega
    have hne : (n == 0) = false := beq_eq_false_iff_ne.2 (by omega)
    go_enter Try.func59, Try.ntmps59
    go_wp2_with fail
    go_ret
    refine ⟨?_, rfl⟩
    rw [HF.out]
    refine ret_int' ?_
    rw [← Int.neg_tmod, Int.tmod_eq_emod_of_nonneg h3]
  · have HF : Hid (pickZ c n = c % n) := by show _ = _; rw [pickZ, if_neg h]
    have h3 : 0 ≤ c := by omega
    have hne : (n == 0) = false := beq_eq_false_iff_ne.2 (by omega)
    go_enter Try.func59, Try.ntmps59
    go_wp2_with fail
    go_ret
    refine ⟨?_, rfl⟩
    rw [HF.out]
    rfl

end Go.Proofs.Ytkaiihoijcpldaa

/-
  Layer 6's raw programs as data.
-/
namespace Go.Proofs.Ytkaiihoijcpldaa
open Go.RowKit

/-- A raw literal, or head. -/
structure Rw where
  kind : Int
  name : Int
  n0 : Int
  n1 : Int
  n2 : Int
  n3 : Int
def RwOk (x : Rw) : Prop := I64 x.kind ∧ I64 x.name ∧ I64 x.n0 ∧ I64 x.n1 ∧ I64 x.n2 ∧ I64 x.n3
def RepRw (_S : Nat → Prop) (_w : World) (x : Rw) (c : Nat → Value) : Prop :=
  c 0 = .int .i64 x.kind ∧ c 1 = .int .i64 x.name ∧ c 2 = .int .i64 x.n0 ∧ c 3 = .int .i64 x.n1 ∧ c 4 = .int .i64 x.n2 ∧ c 5 = .int .i64 x.n3 ∧ RwOk x
/-- The value of one. -/
def rwV (x : Rw) : Value := .agg #[.int .i64 x.kind, .int .i64 x.name, .int .i64 x.n0, .int .i64 x.n1, .int .i64 x.n2, .int .i64 x.n3]
def RepRws (S : Nat → Prop) (w : World) (l : List Rw) (v : Value) : Prop := SlG S w 6 48 (RepRw S w) l v
def RepRwss (S : Nat → Prop) (w : World) (l : List (List Rw)) (v : Value) : Prop := SlG S w 1 24 (fun x c => RepRws S w x (c 0)) l v

def decls6 : List De := [⟨⟨#[108, 105, 110, 107]⟩, 3⟩, ⟨⟨#[112]⟩, 2⟩, ⟨⟨#[113]⟩, 2⟩, ⟨⟨#[114]⟩, 1⟩, ⟨⟨#[115]⟩, 3⟩, ⟨⟨#[116]⟩, 2⟩]
def decl6 (i : Nat) : De := decls6.getD i ⟨⟨#[108, 105, 110, 107]⟩, 3⟩
def vName (i : Nat) : ByteArray := ⟨#[[83, 68, 88, 89, 90, 67].getD i 83]⟩
def vTm (i : Nat) : Tm := .mk 1 (vName i) zV []
def vZ (c : Int) : Tm := vTm (pickZ c 6).toNat
def numZ (n : Int) : Tm := .mk 2 ⟨#[]⟩ (.mk 1 n ⟨#[]⟩ []) []
def adrName (i : Nat) : ByteArray := ⟨#[[97, 98, 99, 100].getD i 97]⟩
def adrZ (i : Nat) : Tm := .mk 2 ⟨#[]⟩ (.mk 3 0 (adrName i) []) []
def sumZ (a b : Tm) (s : ByteArray) : Tm := .mk 4 s zV [a, b]
/-- An atom's argument, by a raw number. -/
def argZ (k : Int) : Tm :=
  if pickZ k 12 = 9 then numZ (pickZ (k.tdiv 12) 4)
  else if pickZ k 12 = 10 then adrZ (pickZ (k.tdiv 12) 3).toNat
  else if pickZ k 12 = 11 then sumZ (vZ (k.tdiv 12)) (numZ 1) ⟨#[43]⟩
  else vZ k
def declOf (x : Rw) : De := decl6 (pickZ x.name 6).toNat
def numOf (x : Rw) (i : Nat) : Int := [x.n0, x.n1, x.n2, x.n3].getD i 0
def atomTo (x : Rw) (k : Nat) : List Tm := vZ x.n0 :: (List.range (k - 1)).map fun i => argZ (numOf x (i + 1))
def atomZ (x : Rw) : List Tm := atomTo x (declOf x).arity.toNat
def cmp6 (i : Nat) : ByteArray := ⟨([[61, 61], [33, 61], [60], [60, 61], [62], [62, 61]].getD i []).toArray⟩
def litZ (x : Rw) : Li :=
  if pickZ x.kind 8 ≤ 3 then ⟨1, (declOf x).name, atomZ x⟩
  else if pickZ x.kind 8 = 4 then ⟨2, (declOf x).name, atomZ x⟩
  else if pickZ x.kind 8 ≤ 6 then ⟨3, cmp6 (pickZ x.name 6).toNat, [vZ x.n0, if pickZ x.n3 2 = 0 then numZ (pickZ x.n2 4) else vZ x.n1]⟩
  else ⟨4, vName (pickZ x.n0 6).toNat, [sumZ (vZ x.n1) (if pickZ (x.n3.tdiv 2) 2 = 0 then numZ 1 else vZ x.n2) (if pickZ x.n3 2 = 0 then ⟨#[43]⟩ else ⟨#[45]⟩)]⟩
def zRw : Rw := ⟨0, 0, 0, 0, 0, 0⟩
def headRw (l : List Rw) : Rw := match l with
  | [] => zRw
  | x :: _ => x
def bodyZ (l : List Rw) : List Li := if ((l.take 5).drop 1) = [] then [litZ zRw] else ((l.take 5).drop 1).map litZ
def labelZ (n : Int) : ByteArray := ⟨#[114, UInt8.ofNat (97 + (pickZ n 26).toNat)]⟩
def agg6 (i : Nat) : ByteArray := ⟨([[109, 105, 110], [109, 97, 120], [99, 111, 117, 110, 116]].getD i []).toArray⟩
def aggOn (l : List Rw) : Bool := pickZ (headRw l).kind 5 == 4 && (decide (1 < (atomZ (headRw l)).length) && ((atomZ (headRw l)).getD 1 (numZ 0)).kind == 1)
def ruleZ (l : List Rw) (n : Int) : Ru :=
  if aggOn l = true then ⟨labelZ n, (declOf (headRw l)).name, atomZ (headRw l), agg6 (pickZ ((headRw l).kind.tdiv 5) 3).toNat, 1, bodyZ l⟩
  else ⟨labelZ n, (declOf (headRw l)).name, atomZ (headRw l), ⟨#[]⟩, 0, bodyZ l⟩
def factArg (x : Rw) (i : Nat) : V :=
  if i = 0 ∨ (i = 1 ∧ ((declOf x).name = ⟨#[108, 105, 110, 107]⟩ ∨ pickZ (numOf x i) 2 = 0)) then .mk 3 0 (adrName (pickZ ((numOf x i).tdiv 2) 4).toNat) []
  else .mk 1 (pickZ ((numOf x i).tdiv 2) 5) ⟨#[]⟩ []
def factZ (x : Rw) : Fa := ⟨(declOf x).name, (List.range (declOf x).arity.toNat).map (factArg x)⟩
def rulesTo (l : List (List Rw)) (k : Nat) : List Ru := (List.range k).map fun i => ruleZ (l.getD i []) i
def progZ (rules : List (List Rw)) (facts : List Rw) : Pr := ⟨decls6, (facts.take 12).map factZ, rulesTo rules (min rules.length 6)⟩

end Go.Proofs.Ytkaiihoijcpldaa
