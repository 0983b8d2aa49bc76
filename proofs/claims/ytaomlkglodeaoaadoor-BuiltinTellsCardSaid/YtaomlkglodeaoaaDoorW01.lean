/-
  api.Value as plain data: 'V' is a value's tree; 'RepV B w' says that four cells (Kind, Int, Text, List) hold it in the world w, its lists in blocks below B. No program is named here.
-/
import Derived.Test.YtaomlkglodeaoaaDoorProg
import Derived.WalkKit
import Derived.Shelf.Strings.Builder1
import Derived.Shelf.Small.Wraps
import Derived.Shelf.Strings.BuilderF
import Derived.Shelf.Strings.BuilderK
import Derived.Shelf.Strconv.Itoa0
import Derived.Shelf.Strconv.Itoa1
import Derived.Shelf.LaysM
import Derived.Shelf.Strconv.Itoa2
import Derived.Shelf.Strconv.Itoa3
import Derived.Lib.Hide
import Derived.WalkSpells
import Derived.WalkLawsBesides
namespace Go.Proofs.YtaomlkglodeaoaaDoor
open Go.RowKit

inductive V where
  | mk (k n : Int) (s : ByteArray) (l : List V) : V
namespace V
def kind : V → Int | mk k _ _ _ => k
def num : V → Int | mk _ n _ _ => n
def text : V → ByteArray | mk _ _ s _ => s
def list : V → List V | mk _ _ _ l => l
end V

/-- A number that an int holds. -/
def I64 (n : Int) : Prop := -9223372036854775808 ≤ n ∧ n ≤ 9223372036854775807

/-- Four cells hold a value in the world w; the rows of its lists lie in blocks of S. -/
def RepG (S : Nat → Prop) (w : World) : V → Value → Value → Value → Value → Prop
  | .mk k n s l, c0, c1, c2, c3 => c0 = .int .i64 k ∧ c1 = .int .i64 n ∧ c2 = .string s ∧ I64 k ∧ I64 n ∧ s.size ≤ maxLen ∧
      ∃ (a : Option Addr) (b o cap : Nat), c3 = .slice a l.length cap ∧ l.length ≤ cap ∧ l.length * 56 ≤ 140737488355328 ∧ (0 < cap → a = some ⟨b, o, none⟩) ∧ (0 < l.length → S b) ∧
        ∀ i (h : i < l.length), ∃ x0 x1 x2 x3 : Value, w.cell? ⟨b, o + i * 4, none⟩ = some x0 ∧ w.cell? ⟨b, o + i * 4 + 1, none⟩ = some x1 ∧ w.cell? ⟨b, o + i * 4 + 2, none⟩ = some x2 ∧
          w.cell? ⟨b, o + i * 4 + 3, none⟩ = some x3 ∧ RepG S w l[i] x0 x1 x2 x3
  termination_by x => SizeOf.sizeOf x
  decreasing_by
    have := List.sizeOf_lt_of_mem (List.getElem_mem h)
    simp only [V.mk.sizeOf_spec]
    omega

/-- A slice of values. -/
def RepLG (S : Nat → Prop) (w : World) (l : List V) (v : Value) : Prop :=
  ∃ (a : Option Addr) (b o cap : Nat), v = .slice a l.length cap ∧ l.length ≤ cap ∧ l.length * 56 ≤ 140737488355328 ∧ (0 < cap → a = some ⟨b, o, none⟩) ∧ (0 < l.length → S b) ∧
    ∀ i (h : i < l.length), ∃ x0 x1 x2 x3 : Value, w.cell? ⟨b, o + i * 4, none⟩ = some x0 ∧ w.cell? ⟨b, o + i * 4 + 1, none⟩ = some x1 ∧ w.cell? ⟨b, o + i * 4 + 2, none⟩ = some x2 ∧
      w.cell? ⟨b, o + i * 4 + 3, none⟩ = some x3 ∧ RepG S w l[i] x0 x1 x2 x3

/-- The same, in blocks below B. -/
def RepV (B : Nat) (w : World) (x : V) (c0 c1 c2 c3 : Value) : Prop := RepG (fun b => b < B) w x c0 c1 c2 c3
def RepL (B : Nat) (w : World) (l : List V) (v : Value) : Prop := RepLG (fun b => b < B) w l v

theorem repG_mk {S : Nat → Prop} {w : World} {k n : Int} {s : ByteArray} {l : List V} {c0 c1 c2 c3 : Value} :
    RepG S w (.mk k n s l) c0 c1 c2 c3 ↔ (c0 = .int .i64 k ∧ c1 = .int .i64 n ∧ c2 = .string s ∧ I64 k ∧ I64 n ∧ s.size ≤ maxLen ∧ RepLG S w l c3) := by
  rw [RepG]; rfl
theorem repV_mk {B : Nat} {w : World} {k n : Int} {s : ByteArray} {l : List V} {c0 c1 c2 c3 : Value} :
    RepV B w (.mk k n s l) c0 c1 c2 c3 ↔ (c0 = .int .i64 k ∧ c1 = .int .i64 n ∧ c2 = .string s ∧ I64 k ∧ I64 n ∧ s.size ≤ maxLen ∧ RepL B w l c3) := repG_mk

theorem RepG.form {S : Nat → Prop} {w : World} {x : V} {c0 c1 c2 c3 : Value} (h : RepG S w x c0 c1 c2 c3) :
    ∃ (a : Option Addr) (cap : Nat), c0 = .int .i64 x.kind ∧ c1 = .int .i64 x.num ∧ c2 = .string x.text ∧ c3 = .slice a x.list.length cap := by
  cases x with
  | mk k n s l =>
    rw [repG_mk] at h
    obtain ⟨h0, h1, h2, h3, h4, h5, a, b, o, cap, e, _⟩ := h
    exact ⟨a, cap, h0, h1, h2, e⟩
theorem RepV.form {B : Nat} {w : World} {x : V} {c0 c1 c2 c3 : Value} (h : RepV B w x c0 c1 c2 c3) :
    ∃ (a : Option Addr) (cap : Nat), c0 = .int .i64 x.kind ∧ c1 = .int .i64 x.num ∧ c2 = .string x.text ∧ c3 = .slice a x.list.length cap := RepG.form h

theorem RepG.lst {S : Nat → Prop} {w : World} {x : V} {c0 c1 c2 c3 : Value} (h : RepG S w x c0 c1 c2 c3) : RepLG S w x.list c3 := by
  cases x with
  | mk k n s l => exact (repG_mk.1 h).2.2.2.2.2.2
theorem RepV.lst {B : Nat} {w : World} {x : V} {c0 c1 c2 c3 : Value} (h : RepV B w x c0 c1 c2 c3) : RepL B w x.list c3 := RepG.lst h
/-- The same value with another list in memory. -/
theorem RepG.relist {S S' : Nat → Prop} {w w' : World} {x : V} {c0 c1 c2 c3 r : Value} (h : RepG S w x c0 c1 c2 c3) (hr : RepLG S' w' x.list r) : RepG S' w' x c0 c1 c2 r := by
  cases x with
  | mk k n s l =>
    rw [repG_mk] at h ⊢
    obtain ⟨h0, h1, h2, h3, h4, h5, _⟩ := h
    exact ⟨h0, h1, h2, h3, h4, h5, hr⟩

/-- What lies in S stays; and S may grow. -/
theorem RepG.on {S S' : Nat → Prop} {w w' : World} (hS : ∀ k, S k → S' k) (hw : ∀ k, S k → w'.heap[k]? = w.heap[k]?) : ∀ (x : V) {c0 c1 c2 c3 : Value}, RepG S w x c0 c1 c2 c3 → RepG S' w' x c0 c1 c2 c3
  | .mk k n s l, c0, c1, c2, c3, h => by
    rw [repG_mk] at h ⊢
    obtain ⟨h0, h1, h2, h3, h4, h5, a, b, o, cap, e, h6, h7, h8, h9, h10⟩ := h
    refine ⟨h0, h1, h2, h3, h4, h5, a, b, o, cap, e, h6, h7, h8, fun h => hS _ (h9 h), fun i hi => ?_⟩
    obtain ⟨x0, x1, x2, x3, g0, g1, g2, g3, g⟩ := h10 i hi
    have hb : S b := h9 (by omega)
    have hc : ∀ o', w'.cell? ⟨b, o', none⟩ = w.cell? ⟨b, o', none⟩ := fun o' => World.cell?_of_block (w := w) (hw b hb)
    exact ⟨x0, x1, x2, x3, by rw [hc]; exact g0, by rw [hc]; exact g1, by rw [hc]; exact g2, by rw [hc]; exact g3, RepG.on hS hw l[i] g⟩
  termination_by x => SizeOf.sizeOf x
  decreasing_by
    have := List.sizeOf_lt_of_mem (List.getElem_mem hi)
    simp only [V.mk.sizeOf_spec]
    omega
theorem RepLG.on {S S' : Nat → Prop} {w w' : World} (hS : ∀ k, S k → S' k) (hw : ∀ k, S k → w'.heap[k]? = w.heap[k]?) {l : List V} {v : Value} (h : RepLG S w l v) : RepLG S' w' l v := by
  obtain ⟨a, b, o, cap, e, h6, h7, h8, h9, h10⟩ := h
  refine ⟨a, b, o, cap, e, h6, h7, h8, fun h => hS _ (h9 h), fun i hi => ?_⟩
  obtain ⟨x0, x1, x2, x3, g0, g1, g2, g3, g⟩ := h10 i hi
  have hb : S b := h9 (by omega)
  have hc : ∀ o', w'.cell? ⟨b, o', none⟩ = w.cell? ⟨b, o', none⟩ := fun o' => World.cell?_of_block (w := w) (hw b hb)
  exact ⟨x0, x1, x2, x3, by rw [hc]; exact g0, by rw [hc]; exact g1, by rw [hc]; exact g2, by rw [hc]; exact g3, RepG.on hS hw l[i] g⟩

theorem RepV.below {B : Nat} {w w' : World} (hw : ∀ k, k < B → w'.heap[k]? = w.heap[k]?) (x : V) {c0 c1 c2 c3 : Value} (h : RepV B w x c0 c1 c2 c3) : RepV B w' x c0 c1 c2 c3 := RepG.on (fun _ h => h) hw x h
theorem RepV.up {B B' : Nat} {w : World} (hB : B ≤ B') (x : V) {c0 c1 c2 c3 : Value} (h : RepV B w x c0 c1 c2 c3) : RepV B' w x c0 c1 c2 c3 := RepG.on (fun _ h => Nat.lt_of_lt_of_le h hB) (fun _ _ => rfl) x h
theorem RepL.below {B : Nat} {w w' : World} (hw : ∀ k, k < B → w'.heap[k]? = w.heap[k]?) {l : List V} {v : Value} (h : RepL B w l v) : RepL B w' l v := RepLG.on (fun _ h => h) hw h
theorem RepL.up {B B' : Nat} {w : World} (hB : B ≤ B') {l : List V} {v : Value} (h : RepL B w l v) : RepL B' w l v := RepLG.on (fun _ h => Nat.lt_of_lt_of_le h hB) (fun _ _ => rfl) h

/-- A block's cells, four by four, hold the values of a list. -/
def RepRow (S : Nat → Prop) (w : World) (l : List V) (cur : Array Value) : Prop :=
  ∀ i (h : i < l.length), ∃ x0 x1 x2 x3 : Value, cur[i * 4]? = some x0 ∧ cur[i * 4 + 1]? = some x1 ∧ cur[i * 4 + 2]? = some x2 ∧ cur[i * 4 + 3]? = some x3 ∧ RepG S w l[i] x0 x1 x2 x3
theorem RepRow.on {S S' : Nat → Prop} {w w' : World} {l : List V} {cur : Array Value} (h : RepRow S w l cur) (hS : ∀ k, S k → S' k) (hw : ∀ k, S k → w'.heap[k]? = w.heap[k]?) : RepRow S' w' l cur := fun i hi => by
  obtain ⟨x0, x1, x2, x3, g0, g1, g2, g3, g⟩ := h i hi
  exact ⟨x0, x1, x2, x3, g0, g1, g2, g3, RepG.on hS hw _ g⟩
/-- One more element is laid. -/
def put4 (cur : Array Value) (i : Nat) (x0 x1 x2 x3 : Value) : Array Value := (((cur.setIfInBounds i x0).setIfInBounds (i + 1) x1).setIfInBounds (i + 2) x2).setIfInBounds (i + 3) x3
theorem put4_size (cur : Array Value) (i : Nat) (x0 x1 x2 x3 : Value) : (put4 cur i x0 x1 x2 x3).size = cur.size := by simp [put4]
theorem RepRow.snoc {S : Nat → Prop} {w : World} {l : List V} {cur : Array Value} (h : RepRow S w l cur) {x : V} {x0 x1 x2 x3 : Value} (hx : RepG S w x x0 x1 x2 x3) (hsz : l.length * 4 + 4 ≤ cur.size) : RepRow S w (l ++ [x]) (put4 cur (l.length * 4) x0 x1 x2 x3) := by
  intro i hi
  by_cases e : i < l.length
  · obtain ⟨y0, y1, y2, y3, g0, g1, g2, g3, g⟩ := h i e
    refine ⟨y0, y1, y2, y3, ?_, ?_, ?_, ?_, by rw [List.getElem_append_left e]; exact g⟩ <;>
    · simp only [put4, Array.getElem?_setIfInBounds]
      rw [if_neg (by omega), if_neg (by omega), if_neg (by omega), if_neg (by omega)]
      assumption
  · simp only [List.length_append, List.length_cons, List.length_nil] at hi
    obtain rfl : i = l.length := by omega
    refine ⟨x0, x1, x2, x3, ?_, ?_, ?_, ?_, by simpa using hx⟩ <;> simp only [put4, Array.getElem?_setIfInBounds, Array.size_setIfInBounds]
    · rw [if_neg (by omega), if_neg (by omega), if_neg (by omega), if_pos trivial, if_pos (by omega)]
    · rw [if_neg (by omega), if_neg (by omega), if_pos trivial, if_pos (by omega)]
    · rw [if_neg (by omega), if_pos trivial, if_pos (by omega)]
    · rw [if_pos trivial, if_pos (by omega)]
/-- A whole row is a slice. -/
theorem RepRow.slice {S : Nat → Prop} {w : World} {l : List V} {cur : Array Value} (h : RepRow S w l cur) {b : Nat} {t : TypeId} {fz : Nat × Nat} (hb : w.heap[b]? = some (.cells cur t fz)) (hS : S b) {cap : Nat} (hl : l.length ≤ cap) (hc : l.length * 56 ≤ 140737488355328) :
    RepLG S w l (.slice (some ⟨b, 0, none⟩) l.length cap) := by
  refine ⟨_, b, 0, cap, rfl, hl, hc, fun _ => rfl, fun _ => hS, fun i hi => ?_⟩
  obtain ⟨x0, x1, x2, x3, g0, g1, g2, g3, g⟩ := h i hi
  refine ⟨x0, x1, x2, x3, ?_, ?_, ?_, ?_, g⟩ <;> simp only [World.cell?, hb, Nat.zero_add] <;> assumption

end Go.Proofs.YtaomlkglodeaoaaDoor

/-
  Contracts of the library at this translation, laid in plain words by the kit's own commands: each is one application of a theorem that is proved once over any program.
-/
namespace Go.Proofs
open Go.Shelf
def Tryd.lays169_ren : Go.Shelf.Ren := ⟨fun | 169 => 37 | n => n, fun | 70 => 56 | 9 => 9 | 0 => 0 | 72 => 59 | 37 => 57 | 127 => 74 | 3 => 3 | 5 => 5 | n => n, fun | n => n⟩
theorem Tryd.lays169 : Go.Proofs.Lays.n169 Tryd.prog Tryd.lays169_ren := {
  mixed := by kernel_rfl
  f169 := Tryd.func37.trans (congrArg some (by kernel_rfl))
  t0 := Tryd.underlying0
  a0 := Tryd.isAgg0
  z0 := Tryd.sizeOf0
  v0 := Tryd.zeroValue0
  t3 := Tryd.underlying3
  a3 := Tryd.isAgg3
  z3 := Tryd.sizeOf3
  v3 := Tryd.zeroValue3
  t9 := Tryd.underlying9
  a9 := Tryd.isAgg9
  z9 := Tryd.sizeOf9
  v9 := Tryd.zeroValue9
  t37 := Tryd.underlying57
  a37 := Tryd.isAgg57
  z37 := Tryd.sizeOf57
  v37 := Tryd.zeroValue57
  t70 := Tryd.underlying56
  a70 := Tryd.isAgg56
  z70 := Tryd.sizeOf56
  v70 := Tryd.zeroValue56
  t72 := Tryd.underlying59
  a72 := Tryd.isAgg59
  z72 := Tryd.sizeOf59
  v72 := Tryd.zeroValue59
  t127 := Tryd.underlying74
  a127 := Tryd.isAgg74
  z127 := Tryd.sizeOf74
  v127 := Tryd.zeroValue74 }
theorem Tryd.Builder_Extra_169 : Builder.Extra Tryd.prog Tryd.lays169_ren := {
  sizeBuilder := by kernel_rfl
  liesBuilder := by kernel_rfl
  t5 := Tryd.underlying5
  a5 := Tryd.isAgg5
  z5 := Tryd.sizeOf5
  v5 := Tryd.zeroValue5
  infoByte := by kernel_rfl
  cellsByte := by kernel_rfl
  sizeByte := by kernel_rfl
  neB5 := by decide }
def Tryd.lays122_ren : Go.Shelf.Ren := ⟨fun | 122 => 50 | 215 => 67 | n => n, fun | 3 => 3 | 4 => 4 | n => n, fun | n => n⟩
theorem Tryd.lays122 : Go.Proofs.Lays.n122 Tryd.prog Tryd.lays122_ren := {
  mixed := by kernel_rfl
  f122 := Tryd.func50.trans (congrArg some (by kernel_rfl))
  f215 := Tryd.func67.trans (congrArg some (by kernel_rfl))
  t3 := Tryd.underlying3
  a3 := Tryd.isAgg3
  z3 := Tryd.sizeOf3
  v3 := Tryd.zeroValue3
  t4 := Tryd.underlying4
  a4 := Tryd.isAgg4
  z4 := Tryd.sizeOf4
  v4 := Tryd.zeroValue4 }
open Go.RowKit in
theorem Tryd.cmp_Compare_int (x y : Int) (w : World) :
    Calls Tryd.prog 50 #[.int .i64 x, .int .i64 y] w fun e w' => e = .returned (.int .i64 (Lib.compareInt x y)) ∧ w' = w := Any.cmp_Compare_int Tryd.lays122 x y w
open Go.RowKit in
theorem Tryd.Builder_String_k (B b : Nat) (l : List UInt8) (w : World) (h : Lib.IsBuilderF 59 5 B b (Lib.byteCells l) w) (h0 : l ≠ []) :
    Calls Tryd.prog 37 #[.pointer (some ⟨b, 0, none⟩)] w fun e w' => e = .returned (.string ⟨l.toArray⟩) ∧ (Lib.IsBuilderF 59 5 B b (Lib.byteCells l) w' ∧ Below B w w' ∧ Lib.OthersKept 5 (some b) w w') := Any.Builder_String_k Tryd.lays169 Tryd.Builder_Extra_169 B b l w h h0
def Tryd.laysM171_ren : Go.Shelf.Ren := ⟨fun | 171 => 56 | 243 => 70 | 246 => 75 | 283 => 76 | 284 => 77 | 285 => 78 | 286 => 79 | 129 => 81 | 317 => 80 | 318 => 82 | 319 => 83 | 320 => 84 | 337 => 85 | 338 => 86 | n => n, fun | 3 => 3 | 9 => 9 | 2 => 2 | 4 => 4 | 171 => 85 | 0 => 0 | 53 => 86 | 37 => 57 | 5 => 5 | 173 => 89 | 212 => 93 | 51 => 94 | 20 => 20 | 213 => 95 | 46 => 96 | 232 => 99 | 233 => 100 | n => n, fun | 17 => 0 | 18 => 1 | 19 => 2 | n => n⟩
theorem Tryd.laysM171 : Go.Proofs.LaysM.n171 Tryd.prog Tryd.laysM171_ren := {
  mixed := by kernel_rfl
  f129 := Tryd.func81.trans (congrArg some (by kernel_rfl))
  f171 := Tryd.func56.trans (congrArg some (by kernel_rfl))
  f243 := Tryd.func70.trans (congrArg some (by kernel_rfl))
  f246 := Tryd.func75.trans (congrArg some (by kernel_rfl))
  f283 := Tryd.func76.trans (congrArg some (by kernel_rfl))
  f284 := Tryd.func77.trans (congrArg some (by kernel_rfl))
  f285 := Tryd.func78.trans (congrArg some (by kernel_rfl))
  f286 := Tryd.func79.trans (congrArg some (by kernel_rfl))
  f317 := Tryd.func80.trans (congrArg some (by kernel_rfl))
  f318 := Tryd.func82.trans (congrArg some (by kernel_rfl))
  f319 := Tryd.func83.trans (congrArg some (by kernel_rfl))
  f320 := Tryd.func84.trans (congrArg some (by kernel_rfl))
  f337 := Tryd.func85.trans (congrArg some (by kernel_rfl))
  f338 := Tryd.func86.trans (congrArg some (by kernel_rfl))
  t0 := Tryd.underlying0
  a0 := Tryd.isAgg0
  z0 := Tryd.sizeOf0
  v0 := Tryd.zeroValue0
  t2 := Tryd.underlying2
  a2 := Tryd.isAgg2
  z2 := Tryd.sizeOf2
  v2 := Tryd.zeroValue2
  t3 := Tryd.underlying3
  a3 := Tryd.isAgg3
  z3 := Tryd.sizeOf3
  v3 := Tryd.zeroValue3
  t4 := Tryd.underlying4
  a4 := Tryd.isAgg4
  z4 := Tryd.sizeOf4
  v4 := Tryd.zeroValue4
  t5 := Tryd.underlying5
  a5 := Tryd.isAgg5
  z5 := Tryd.sizeOf5
  v5 := Tryd.zeroValue5
  t9 := Tryd.underlying9
  a9 := Tryd.isAgg9
  z9 := Tryd.sizeOf9
  v9 := Tryd.zeroValue9
  t20 := Tryd.underlying20
  a20 := Tryd.isAgg20
  z20 := Tryd.sizeOf20
  v20 := Tryd.zeroValue20
  t37 := Tryd.underlying57
  a37 := Tryd.isAgg57
  z37 := Tryd.sizeOf57
  v37 := Tryd.zeroValue57
  t46 := Tryd.underlying96
  a46 := Tryd.isAgg96
  z46 := Tryd.sizeOf96
  v46 := Tryd.zeroValue96
  t51 := Tryd.underlying94
  a51 := Tryd.isAgg94
  z51 := Tryd.sizeOf94
  v51 := Tryd.zeroValue94
  t53 := Tryd.underlying86
  a53 := Tryd.isAgg86
  z53 := Tryd.sizeOf86
  v53 := Tryd.zeroValue86
  t171 := Tryd.underlying85
  a171 := Tryd.isAgg85
  z171 := Tryd.sizeOf85
  v171 := Tryd.zeroValue85
  t173 := Tryd.underlying89
  a173 := Tryd.isAgg89
  z173 := Tryd.sizeOf89
  v173 := Tryd.zeroValue89
  t212 := Tryd.underlying93
  a212 := Tryd.isAgg93
  z212 := Tryd.sizeOf93
  v212 := Tryd.zeroValue93
  t213 := Tryd.underlying95
  a213 := Tryd.isAgg95
  z213 := Tryd.sizeOf95
  t232 := Tryd.underlying99
  a232 := Tryd.isAgg99
  z232 := Tryd.sizeOf99
  v232 := Tryd.zeroValue99
  t233 := Tryd.underlying100
  a233 := Tryd.isAgg100
  z233 := Tryd.sizeOf100
  v233 := Tryd.zeroValue100
  g17 := by kernel_rfl
  g18 := by kernel_rfl
  g19 := by kernel_rfl
  i0 := by kernel_rfl
  i2 := by kernel_rfl
  i3 := by kernel_rfl
  i4 := by kernel_rfl
  i5 := by kernel_rfl
  i9 := by kernel_rfl
  i20 := by kernel_rfl
  i37 := by kernel_rfl
  i46 := by kernel_rfl
  i51 := by kernel_rfl
  i53 := by kernel_rfl
  i171 := by kernel_rfl
  i173 := by kernel_rfl
  i212 := by kernel_rfl
  i232 := by kernel_rfl
  i233 := by kernel_rfl
  m17 := by kernel_rfl
  m18 := by kernel_rfl
  m19 := by kernel_rfl }
open Go.RowKit Go.Sort Go.Lib in
theorem Tryd.strconv_Itoa (n : Int) (h0 : -9223372036854775808 ≤ n) (h1 : n ≤ 9223372036854775807) (w : World) (htab : Lib.TabIs Tryd.prog w "internal/strconv.uint64pow10" .u64 Lib.pow10Tab) :
    Calls Tryd.prog 56 #[.int .i64 n] w fun e w' => e = .returned (.string ⟨(Lib.itoa n).toArray⟩) ∧ ∃ k os, w' = grow (w.drewN k) os := Any.strconv_Itoa Tryd.laysM171 n h0 h1 w htab
end Go.Proofs

/-
  value.List and the other makers, as contracts: a list is copied all the way down.
-/
namespace Go.Proofs.YtaomlkglodeaoaaDoor
open Go.RowKit

theorem infoValue : (Tryd.prog.info? 24).map (fun i => (i.zero, i.size, i.bytes)) = some (some (.agg #[.int .i64 0, .int .i64 0, .string ⟨#[]⟩, .slice none 0 0]), 4, 56) := by kernel_rfl

/-- The blank row that 'make' lays. -/
def blank (n : Nat) : Array Value := madeCells #[.int .i64 0, .int .i64 0, .string ⟨#[]⟩, .slice none 0 0] (n * 4)
theorem blank_size (n : Nat) : (blank n).size = n * 4 := size_madeCells _ _

/-- 'copied': the same values, in new blocks. -/
def CopyAt (l : List V) : Prop := ∀ (B : Nat) (w : World) (a : Value), B ≤ w.heap.size → RepL B w l a →
  Calls Tryd.prog 35 #[a] w fun e w' => ∃ r, e = .returned r ∧ RepLG (fun b => w.heap.size ≤ b ∧ b < w'.heap.size) w' l r ∧ Below w.heap.size w w'

theorem run_make4 (w : World) (n : Nat) (hn : n * 56 ≤ 140737488355328) :
    (Instr.makeSlice 22 (.int .i64 n) (.int .i64 n)).run Tryd.prog w = .ok (.slice (some ⟨w.heap.size, 0, none⟩) n n) (w.alloc (.cells (blank n) 24)) := by
  obtain ⟨i0, hi, hz0, hz1, hz2⟩ := info_parts infoValue
  have h := Go.run_make (P := Tryd.prog) w 22 24 i0 _ Tryd.underlying22 hi hz0 .i64 .i64 n n (by omega) (by omega) (by rw [hz2]; omega) (by omega)
  rw [h, hz1, Int.toNat_natCast]
  rfl

/-- Behind k rounds of the copying loop: the row M holds copies of the first k values. -/
def CopyInv (l : List V) (k : Nat) (w wr : World) : Prop :=
  ∃ cur, wr.heap[w.heap.size]? = some (.cells cur 24 (0, 0)) ∧ cur.size = l.length * 4 ∧ RepRow (fun b => w.heap.size < b ∧ b < wr.heap.size) wr (l.take k) cur ∧ Below w.heap.size w wr

theorem alloc_new' (w : World) (o : Obj) : (w.alloc o).heap[w.heap.size]? = some o := by
  show (w.heap.push o)[w.heap.size]? = _
  simp

theorem CopyInv.start (l : List V) (w : World) : CopyInv l 0 w (w.alloc (.cells (blank l.length) 24)) :=
  ⟨_, alloc_new' _ _, blank_size _, fun i hi => by simp at hi, (Below.refl _ w).alloc (Nat.le_refl _) _⟩

theorem CopyInv.finish {l : List V} {w wr : World} (h : CopyInv l l.length w wr) (hl : l.length * 56 ≤ 140737488355328) :
    RepLG (fun b => w.heap.size ≤ b ∧ b < wr.heap.size) wr l (.slice (some ⟨w.heap.size, 0, none⟩) l.length l.length) ∧ Below w.heap.size w wr := by
  obtain ⟨cur, hb, hs, hr, hbel⟩ := h
  rw [List.take_length] at hr
  exact ⟨(hr.on (fun k hk => ⟨by omega, hk.2⟩) (fun _ _ => rfl)).slice hb ⟨Nat.le_refl _, (Array.getElem?_eq_some_iff.1 hb).1⟩ (Nat.le_refl _) hl, hbel⟩

/-- One round: the box is made, its list copied, the four cells laid. -/
theorem CopyInv.step {l : List V} {k : Nat} {w wr w3 : World} (h : CopyInv l k w wr) (hk : k < l.length) {o : Obj} {r : Value} (hb3 : Below (wr.alloc o).heap.size (wr.alloc o) w3)
    {c0 c1 c2 : Value} (hx : RepG (fun b => w.heap.size < b ∧ b < w3.heap.size ∧ b ≠ wr.heap.size) w3 l[k] c0 c1 c2 r) (r' : Value) :
    CopyInv l (k + 1) w ((((((w3.setCell ⟨wr.heap.size, 3, none⟩ r').setCell ⟨w.heap.size, k * 4, none⟩ c0).setCell ⟨w.heap.size, k * 4 + 1, none⟩ c1).setCell ⟨w.heap.size, k * 4 + 2, none⟩ c2).setCell ⟨w.heap.size, k * 4 + 3, none⟩ r)) := by
  obtain ⟨cur, hb, hs, hr, hbel⟩ := h
  have hlt : w.heap.size < wr.heap.size := (Array.getElem?_eq_some_iff.1 hb).1
  have hs3 := hb3.size
  simp only [World.size_alloc] at hs3
  have e3 : w3.heap[w.heap.size]? = some (.cells cur 24 (0, 0)) := by
    rw [hb3.block _ (by simp; omega), Below.heap_alloc _ _ _ hlt]; exact hb
  have e4 : (w3.setCell ⟨wr.heap.size, 3, none⟩ r').heap[w.heap.size]? = some (.cells cur 24 (0, 0)) := by
    rw [Below.heap_setCell _ _ _ _ (by simp; omega)]; exact e3
  have keep : ∀ b, b ≠ w.heap.size → b ≠ wr.heap.size → ((((((w3.setCell ⟨wr.heap.size, 3, none⟩ r').setCell ⟨w.heap.size, k * 4, none⟩ c0).setCell ⟨w.heap.size, k * 4 + 1, none⟩ c1).setCell ⟨w.heap.size, k * 4 + 2, none⟩ c2).setCell ⟨w.heap.size, k * 4 + 3, none⟩ r)).heap[b]? = w3.heap[b]? := by
    intro b h1 h2
    rw [Below.heap_setCell _ _ _ _ (by simpa using h1), Below.heap_setCell _ _ _ _ (by simpa using h1), Below.heap_setCell _ _ _ _ (by simpa using h1), Below.heap_setCell _ _ _ _ (by simpa using h1), Below.heap_setCell _ _ _ _ (by simpa using h2)]
  have hsz : ((((((w3.setCell ⟨wr.heap.size, 3, none⟩ r').setCell ⟨w.heap.size, k * 4, none⟩ c0).setCell ⟨w.heap.size, k * 4 + 1, none⟩ c1).setCell ⟨w.heap.size, k * 4 + 2, none⟩ c2).setCell ⟨w.heap.size, k * 4 + 3, none⟩ r)).heap.size = w3.heap.size := by
    simp [World.setCell]
  refine ⟨put4 cur (k * 4) c0 c1 c2 r, ?_, by rw [put4_size]; exact hs, ?_, ?_⟩
  · exact heap_setCell_same _ _ _ _ _ _ (heap_setCell_same _ _ _ _ _ _ (heap_setCell_same _ _ _ _ _ _ (heap_setCell_same _ _ _ _ _ _ e4)))
  · rw [List.take_succ_eq_append_getElem hk]
    have hlen : (l.take k).length = k := by simp; omega
    have h1 : RepRow (fun b => w.heap.size < b ∧ b < w3.heap.size ∧ b ≠ wr.heap.size) w3 (l.take k) cur := hr.on (fun b hb => ⟨hb.1, by omega, by omega⟩) (fun b hb => by rw [hb3.block _ (by simp; omega), Below.heap_alloc _ _ _ hb.2])
    have h2 := h1.snoc hx (by rw [hlen, hs]; omega)
    rw [hlen] at h2
    exact h2.on (fun b hb => ⟨hb.1, by rw [hsz]; exact hb.2.1⟩) (fun b hb => keep b (by omega) hb.2.2)
  · have hw3 : Below w.heap.size w w3 := (hbel.alloc (by omega) o).trans (hb3.mono (by simp; omega))
    exact ((((hw3.setCell (by simp; omega) _).setCell (Nat.le_refl _) _).setCell (Nat.le_refl _) _).setCell (Nat.le_refl _) _).setCell (Nat.le_refl _) _

theorem cell_of_block' {w : World} {k i : Nat} {cs : Array Value} {t : TypeId} {fz : Nat × Nat} (h : w.heap[k]? = some (.cells cs t fz)) (v : Value) (hv : cs[i]? = some v) : w.cell? ⟨k, i, none⟩ = some v := by
  simp [World.cell?, h, hv]
theorem cell_some {w : World} {k i : Nat} {cs : Array Value} {t : TypeId} {fz : Nat × Nat} (h : w.heap[k]? = some (.cells cs t fz)) (hi : i < cs.size) : ∃ v, w.cell? ⟨k, i, none⟩ = some v :=
  ⟨cs[i], cell_of_block' h _ (Array.getElem?_eq_getElem hi)⟩

set_option maxRecDepth 100000 in
set_option maxHeartbeats 1000000 in
theorem copied_of (l : List V) (hC : ∀ x, x ∈ l → CopyAt x.list) : CopyAt l := by
  intro B w a hB ha
  obtain ⟨aa, ab, ao, ac, rfl, hal, hac, haa, hab, hax⟩ := ha
  have HC := Lib.hid hC; clear hC
  have HAX := Lib.hid hax; clear hax
  have HAA := Lib.hid haa; clear haa
  by_cases hz : l.length = 0
  · have hl0 : l = [] := List.length_eq_zero_iff.1 hz
    subst hl0
    go_enter Tryd.func35, Tryd.ntmps35
    go_wp2_with fail
    go_ret
    exact ⟨_, rfl, ⟨none, 0, 0, 0, rfl, Nat.le_refl _, by simp, fun h => by omega, fun h => by simp at h, fun i hi => by simp at hi⟩, Below.refl _ _⟩
  have hz' : ((l.length : Int) == 0) = false := beq_eq_false_iff_ne.2 (by omega)
  have hmk : ∀ w, (Instr.makeSlice 22 (.int .i64 l.length) (.int .i64 l.length)).run Tryd.prog w = _ := fun w => run_make4 w l.length (by omega)
  go_enter Tryd.func35, Tryd.ntmps35
  go_wp2_with fail
  go_loopw [14] (fun i wr => ∃ k : Nat, k ≤ l.length ∧ i = .int .i64 k ∧ CopyInv l k w wr) (fun i _ => l.length - (intOf i).toNat)
  case atStart => exact ⟨0, Nat.zero_le _, rfl, CopyInv.start l w⟩
  case round =>
    obtain ⟨k, hk1, rfl, hinv⟩ := hrel
    have hbel : Below w.heap.size w wr := by obtain ⟨_, _, _, _, h⟩ := hinv; exact h
    by_cases hl : k < l.length
    · obtain ⟨x0, x1, x2, x3, g0, g1, g2, g3, gr⟩ := HAX.out k hl
      have hab' : ab < B := hab (by omega)
      obtain rfl := HAA.out (by omega)
      rw [← hbel.cell (by simp; omega)] at g0 g1 g2 g3
      have hs := hbel.size
      obtain ⟨fa, fc, rfl, rfl, rfl, rfl⟩ := gr.form
      have HI := Lib.hid hinv; clear hinv
      have HG := Lib.hid gr; clear gr
      go_wp2_with fail
      have hb2 : Below w.heap.size w (wr.alloc (.cells #[.int .i64 l[k].kind, .int .i64 l[k].num, .string l[k].text, .slice fa l[k].list.length fc] 24)) := hbel.alloc hs _
      refine (HC.out l[k] (List.getElem_mem hl) B _ _ (by simp; omega) (RepL.below (fun j hj => hb2.block j (by omega)) HG.out.lst)).mono ?_
      rintro e w3 ⟨r, rfl, hrl, hb3⟩
      obtain ⟨ra, rb, ro, rc, hr1, -⟩ := id hrl
      subst hr1
      have hs3 := hb3.size
      simp only [World.size_alloc] at hs3
      have hx : RepG (fun b => w.heap.size < b ∧ b < w3.heap.size ∧ b ≠ wr.heap.size) w3 l[k] _ _ _ _ := HG.out.relist (hrl.on (fun b hb => ⟨by have := hb.1; simp at this; omega, hb.2, by have := hb.1; simp at this; omega⟩) (fun _ _ => rfl))
      have HX := Lib.hid (HI.out.step hl hb3 hx (.slice ra l[k].list.length rc)); clear hx
      have b1 : w3.heap[wr.heap.size]? = _ := (hb3.block wr.heap.size (by simp)).trans (alloc_new' _ _)
      obtain ⟨cur, m1, m2, -, -⟩ := HI.out
      have hltM : w.heap.size < wr.heap.size := (Array.getElem?_eq_some_iff.1 m1).1
      have m3 : w3.heap[w.heap.size]? = some (.cells cur 24 (0, 0)) := by
        rw [hb3.block _ (by simp; omega), Below.heap_alloc _ _ _ hltM]; exact m1
      obtain ⟨u0, q0⟩ := cell_some m3 (i := k * 4) (by omega)
      obtain ⟨u1, q1⟩ := cell_some m3 (i := k * 4 + 1) (by omega)
      obtain ⟨u2, q2⟩ := cell_some m3 (i := k * 4 + 2) (by omega)
      obtain ⟨u3, q3⟩ := cell_some m3 (i := k * 4 + 3) (by omega)
      have z0 := frozen_of_row w3 _ (k * 4) _ _ m3
      have z1 := frozen_of_row w3 _ (k * 4 + 1) _ _ m3
      have z2 := frozen_of_row w3 _ (k * 4 + 2) _ _ m3
      have z3 := frozen_of_row w3 _ (k * 4 + 3) _ _ m3
      have zb := frozen_of_row w3 _ 3 _ _ b1
      have d0 := cell_of_block' (i := 0) b1 _ rfl
      have d1 := cell_of_block' (i := 1) b1 _ rfl
      have d2 := cell_of_block' (i := 2) b1 _ rfl
      have d3 := cell_of_block' (i := 3) b1 _ rfl
      clear b1 m1 m2 m3 g0 g1 g2 g3 hrl
      have hne : w.heap.size ≠ wr.heap.size := by omega
      have hne2 : wr.heap.size ≠ w.heap.size := by omega
      go_wp2_with fail
      go_roundw
      case rel => exact ⟨k + 1, by omega, by go_num, HX.out⟩
      case measure => simp [intOf]; omega
    · have hke : k = l.length := by omega
      subst hke
      have HF := Lib.hid (hinv.finish (by omega))
      clear hinv
      go_wp2_with fail
      go_ret
      exact ⟨_, rfl, HF.out.1, HF.out.2⟩

theorem copied_any (l : List V) : CopyAt l := copied_of l (fun x _hx => copied_any x.list)
  termination_by SizeOf.sizeOf l
  decreasing_by
    have := List.sizeOf_lt_of_mem _hx
    cases x with
    | mk k n s m => simp only [V.mk.sizeOf_spec, V.list] at *; omega

end Go.Proofs.YtaomlkglodeaoaaDoor
