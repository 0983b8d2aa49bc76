/-
  api.Value as plain data: 'V' is a value's tree; 'RepV B w' says that four cells (Kind, Int, Text, List) hold it in the world w, its lists in blocks below B. No program is named here.
-/
import Derived.WalkKit
namespace Go.Proofs.YtgpgjaenbhbbgaaDoor
open Go.RowKit

inductive V where
  | mk (k n : Int) (s : ByteArray) (l : List V) : V
namespace V
def kind : V → Int | mk k _ _ _ => k
def num : V → Int | mk _ n _ _ => n
def text : V → ByteArray | mk _ _ s _ => s
def list : V → List V | mk _ _ _ l => l
end V

/-- A number that an int holds. -/
def I64 (n : Int) : Prop := -9223372036854775808 ≤ n ∧ n ≤ 9223372036854775807

/-- Four cells hold a value in the world w; the rows of its lists lie in blocks of S. -/
def RepG (S : Nat → Prop) (w : World) : V → Value → Value → Value → Value → Prop
  | .mk k n s l, c0, c1, c2, c3 => c0 = .int .i64 k ∧ c1 = .int .i64 n ∧ c2 = .string s ∧ I64 k ∧ I64 n ∧ s.size ≤ maxLen ∧
      ∃ (a : Option Addr) (b o cap : Nat), c3 = .slice a l.length cap ∧ l.length ≤ cap ∧ l.length * 56 ≤ 140737488355328 ∧ (0 < cap → a = some ⟨b, o, none⟩) ∧ (0 < l.length → S b) ∧
        ∀ i (h : i < l.length), ∃ x0 x1 x2 x3 : Value, w.cell? ⟨b, o + i * 4, none⟩ = some x0 ∧ w.cell? ⟨b, o + i * 4 + 1, none⟩ = some x1 ∧ w.cell? ⟨b, o + i * 4 + 2, none⟩ = some x2 ∧
          w.cell? ⟨b, o + i * 4 + 3, none⟩ = some x3 ∧ RepG S w l[i] x0 x1 x2 x3
  termination_by x => SizeOf.sizeOf x
  decreasing_by
    have := List.sizeOf_lt_of_mem (List.getElem_mem h)
    simp only [V.mk.sizeOf_spec]
    omega

/-- A slice of values. -/
def RepLG (S : Nat → Prop) (w : World) (l : List V) (v : Value) : Prop :=
  ∃ (a : Option Addr) (b o cap : Nat), v = .slice a l.length cap ∧ l.length ≤ cap ∧ l.length * 56 ≤ 140737488355328 ∧ (0 < cap → a = some ⟨b, o, none⟩) ∧ (0 < l.length → S b) ∧
    ∀ i (h : i < l.length), ∃ x0 x1 x2 x3 : Value, w.cell? ⟨b, o + i * 4, none⟩ = some x0 ∧ w.cell? ⟨b, o + i * 4 + 1, none⟩ = some x1 ∧ w.cell? ⟨b, o + i * 4 + 2, none⟩ = some x2 ∧
      w.cell? ⟨b, o + i * 4 + 3, none⟩ = some x3 ∧ RepG S w l[i] x0 x1 x2 x3

/-- The same, in blocks below B. -/
def RepV (B : Nat) (w : World) (x : V) (c0 c1 c2 c3 : Value) : Prop := RepG (fun b => b < B) w x c0 c1 c2 c3
def RepL (B : Nat) (w : World) (l : List V) (v : Value) : Prop := RepLG (fun b => b < B) w l v

theorem repG_mk {S : Nat → Prop} {w : World} {k n : Int} {s : ByteArray} {l : List V} {c0 c1 c2 c3 : Value} :
    RepG S w (.mk k n s l) c0 c1 c2 c3 ↔ (c0 = .int .i64 k ∧ c1 = .int .i64 n ∧ c2 = .string s ∧ I64 k ∧ I64 n ∧ s.size ≤ maxLen ∧ RepLG S w l c3) := by
  rw [RepG]; rfl
theorem repV_mk {B : Nat} {w : World} {k n : Int} {s : ByteArray} {l : List V} {c0 c1 c2 c3 : Value} :
    RepV B w (.mk k n s l) c0 c1 c2 c3 ↔ (c0 = .int .i64 k ∧ c1 = .int .i64 n ∧ c2 = .string s ∧ I64 k ∧ I64 n ∧ s.size ≤ maxLen ∧ RepL B w l c3) := repG_mk

theorem RepG.form {S : Nat → Prop} {w : World} {x : V} {c0 c1 c2 c3 : Value} (h : RepG S w x c0 c1 c2 c3) :
    ∃ (a : Option Addr) (cap : Nat), c0 = .int .i64 x.kind ∧ c1 = .int .i64 x.num ∧ c2 = .string x.text ∧ c3 = .slice a x.list.length cap := by
  cases x with
  | mk k n s l =>
    rw [repG_mk] at h
    obtain ⟨h0, h1, h2, h3, h4, h5, a, b, o, cap, e, _⟩ := h
    exact ⟨a, cap, h0, h1, h2, e⟩
theorem RepV.form {B : Nat} {w : World} {x : V} {c0 c1 c2 c3 : Value} (h : RepV B w x c0 c1 c2 c3) :
    ∃ (a : Option Addr) (cap : Nat), c0 = .int .i64 x.kind ∧ c1 = .int .i64 x.num ∧ c2 = .string x.text ∧ c3 = .slice a x.list.length cap := RepG.form h

theorem RepG.lst {S : Nat → Prop} {w : World} {x : V} {c0 c1 c2 c3 : Value} (h : RepG S w x c0 c1 c2 c3) : RepLG S w x.list c3 := by
  cases x with
  | mk k n s l => exact (repG_mk.1 h).2.2.2.2.2.2
theorem RepV.lst {B : Nat} {w : World} {x : V} {c0 c1 c2 c3 : Value} (h : RepV B w x c0 c1 c2 c3) : RepL B w x.list c3 := RepG.lst h
/-- The same value with another list in memory. -/
theorem RepG.relist {S S' : Nat → Prop} {w w' : World} {x : V} {c0 c1 c2 c3 r : Value} (h : RepG S w x c0 c1 c2 c3) (hr : RepLG S' w' x.list r) : RepG S' w' x c0 c1 c2 r := by
  cases x with
  | mk k n s l =>
    rw [repG_mk] at h ⊢
    obtain ⟨h0, h1, h2, h3, h4, h5, _⟩ := h
    exact ⟨h0, h1, h2, h3, h4, h5, hr⟩

/-- What lies in S stays; and S may grow. -/
theorem RepG.on {S S' : Nat → Prop} {w w' : World} (hS : ∀ k, S k → S' k) (hw : ∀ k, S k → w'.heap[k]? = w.heap[k]?) : ∀ (x : V) {c0 c1 c2 c3 : Value}, RepG S w x c0 c1 c2 c3 → RepG S' w' x c0 c1 c2 c3
  | .mk k n s l, c0, c1, c2, c3, h => by
    rw [repG_mk] at h ⊢
    obtain ⟨h0, h1, h2, h3, h4, h5, a, b, o, cap, e, h6, h7, h8, h9, h10⟩ := h
    refine ⟨h0, h1, h2, h3, h4, h5, a, b, o, cap, e, h6, h7, h8, fun h => hS _ (h9 h), fun i hi => ?_⟩
    obtain ⟨x0, x1, x2, x3, g0, g1, g2, g3, g⟩ := h10 i hi
    have hb : S b := h9 (by omega)
    have hc : ∀ o', w'.cell? ⟨b, o', none⟩ = w.cell? ⟨b, o', none⟩ := fun o' => World.cell?_of_block (w := w) (hw b hb)
    exact ⟨x0, x1, x2, x3, by rw [hc]; exact g0, by rw [hc]; exact g1, by rw [hc]; exact g2, by rw [hc]; exact g3, RepG.on hS hw l[i] g⟩
  termination_by x => SizeOf.sizeOf x
  decreasing_by
    have := List.sizeOf_lt_of_mem (List.getElem_mem hi)
    simp only [V.mk.sizeOf_spec]
    omega
theorem RepLG.on {S S' : Nat → Prop} {w w' : World} (hS : ∀ k, S k → S' k) (hw : ∀ k, S k → w'.heap[k]? = w.heap[k]?) {l : List V} {v : Value} (h : RepLG S w l v) : RepLG S' w' l v := by
  obtain ⟨a, b, o, cap, e, h6, h7, h8, h9, h10⟩ := h
  refine ⟨a, b, o, cap, e, h6, h7, h8, fun h => hS _ (h9 h), fun i hi => ?_⟩
  obtain ⟨x0, x1, x2, x3, g0, g1, g2, g3, g⟩ := h10 i hi
  have hb : S b := h9 (by omega)
  have hc : ∀ o', w'.cell? ⟨b, o', none⟩ = w.cell? ⟨b, o', none⟩ := fun o' => World.cell?_of_block (w := w) (hw b hb)
  exact ⟨x0, x1, x2, x3, by rw [hc]; exact g0, by rw [hc]; exact g1, by rw [hc]; exact g2, by rw [hc]; exact g3, RepG.on hS hw l[i] g⟩

theorem RepV.below {B : Nat} {w w' : World} (hw : ∀ k, k < B → w'.heap[k]? = w.heap[k]?) (x : V) {c0 c1 c2 c3 : Value} (h : RepV B w x c0 c1 c2 c3) : RepV B w' x c0 c1 c2 c3 := RepG.on (fun _ h => h) hw x h
theorem RepV.up {B B' : Nat} {w : World} (hB : B ≤ B') (x : V) {c0 c1 c2 c3 : Value} (h : RepV B w x c0 c1 c2 c3) : RepV B' w x c0 c1 c2 c3 := RepG.on (fun _ h => Nat.lt_of_lt_of_le h hB) (fun _ _ => rfl) x h
theorem RepL.below {B : Nat} {w w' : World} (hw : ∀ k, k < B → w'.heap[k]? = w.heap[k]?) {l : List V} {v : Value} (h : RepL B w l v) : RepL B w' l v := RepLG.on (fun _ h => h) hw h
theorem RepL.up {B B' : Nat} {w : World} (hB : B ≤ B') {l : List V} {v : Value} (h : RepL B w l v) : RepL B' w l v := RepLG.on (fun _ h => Nat.lt_of_lt_of_le h hB) (fun _ _ => rfl) h

/-- A block's cells, four by four, hold the values of a list. -/
def RepRow (S : Nat → Prop) (w : World) (l : List V) (cur : Array Value) : Prop :=
  ∀ i (h : i < l.length), ∃ x0 x1 x2 x3 : Value, cur[i * 4]? = some x0 ∧ cur[i * 4 + 1]? = some x1 ∧ cur[i * 4 + 2]? = some x2 ∧ cur[i * 4 + 3]? = some x3 ∧ RepG S w l[i] x0 x1 x2 x3
theorem RepRow.on {S S' : Nat → Prop} {w w' : World} {l : List V} {cur : Array Value} (h : RepRow S w l cur) (hS : ∀ k, S k → S' k) (hw : ∀ k, S k → w'.heap[k]? = w.heap[k]?) : RepRow S' w' l cur := fun i hi => by
  obtain ⟨x0, x1, x2, x3, g0, g1, g2, g3, g⟩ := h i hi
  exact ⟨x0, x1, x2, x3, g0, g1, g2, g3, RepG.on hS hw _ g⟩
/-- One more element is laid. -/
def put4 (cur : Array Value) (i : Nat) (x0 x1 x2 x3 : Value) : Array Value := (((cur.setIfInBounds i x0).setIfInBounds (i + 1) x1).setIfInBounds (i + 2) x2).setIfInBounds (i + 3) x3
theorem put4_size (cur : Array Value) (i : Nat) (x0 x1 x2 x3 : Value) : (put4 cur i x0 x1 x2 x3).size = cur.size := by simp [put4]
theorem RepRow.snoc {S : Nat → Prop} {w : World} {l : List V} {cur : Array Value} (h : RepRow S w l cur) {x : V} {x0 x1 x2 x3 : Value} (hx : RepG S w x x0 x1 x2 x3) (hsz : l.length * 4 + 4 ≤ cur.size) : RepRow S w (l ++ [x]) (put4 cur (l.length * 4) x0 x1 x2 x3) := by
  intro i hi
  by_cases e : i < l.length
  · obtain ⟨y0, y1, y2, y3, g0, g1, g2, g3, g⟩ := h i e
    refine ⟨y0, y1, y2, y3, ?_, ?_, ?_, ?_, by rw [List.getElem_append_left e]; exact g⟩ <;>
    · simp only [put4, Array.getElem?_setIfInBounds]
      rw [if_neg (by omega), if_neg (by omega), if_neg (by omega), if_neg (by omega)]
      assumption
  · simp only [List.length_append, List.length_cons, List.length_nil] at hi
    obtain rfl : i = l.length := by omega
    refine ⟨x0, x1, x2, x3, ?_, ?_, ?_, ?_, by simpa using hx⟩ <;> simp only [put4, Array.getElem?_setIfInBounds, Array.size_setIfInBounds]
    · rw [if_neg (by omega), if_neg (by omega), if_neg (by omega), if_pos trivial, if_pos (by omega)]
    · rw [if_neg (by omega), if_neg (by omega), if_pos trivial, if_pos (by omega)]
    · rw [if_neg (by omega), if_pos trivial, if_pos (by omega)]
    · rw [if_pos trivial, if_pos (by omega)]
/-- A whole row is a slice. -/
theorem RepRow.slice {S : Nat → Prop} {w : World} {l : List V} {cur : Array Value} (h : RepRow S w l cur) {b : Nat} {t : TypeId} {fz : Nat × Nat} (hb : w.heap[b]? = some (.cells cur t fz)) (hS : S b) {cap : Nat} (hl : l.length ≤ cap) (hc : l.length * 56 ≤ 140737488355328) :
    RepLG S w l (.slice (some ⟨b, 0, none⟩) l.length cap) := by
  refine ⟨_, b, 0, cap, rfl, hl, hc, fun _ => rfl, fun _ => hS, fun i hi => ?_⟩
  obtain ⟨x0, x1, x2, x3, g0, g1, g2, g3, g⟩ := h i hi
  refine ⟨x0, x1, x2, x3, ?_, ?_, ?_, ?_, g⟩ <;> simp only [World.cell?, hb, Nat.zero_add] <;> assumption

end Go.Proofs.YtgpgjaenbhbbgaaDoor
