/-
  Kit of layer 6's own literals: rows of two, and what lies at a place of them.
-/
import Derived.Test.YtkaiihoijcpldaaW03
import Derived.Deep.CutRange
import Derived.Deep.Cut
namespace Go.Proofs.Ytkaiihoijcpldaa
open Go.RowKit

/-- A row of two terms, in block b: fourteen cells. -/
def TwoAt (cs : Array Value) (w : World) (v : Value) : Prop := ∃ b, v = .slice (some ⟨b, 0, none⟩) 2 2 ∧ w.heap[b]? = some (.cells cs 48 (0, 0))
theorem TwoAt.stay {cs : Array Value} {w w' : World} {v : Value} (hb : Below w.heap.size w w') (h : TwoAt cs w v) : TwoAt cs w' v := by
  obtain ⟨b, e, h⟩ := h
  exact ⟨b, e, (hb.block b (Array.getElem?_eq_some_iff.1 h).1).trans h⟩
/-- Seven cells at a place. -/
def TmPtr (o : Nat) (c0 c1 c2 c3 c4 c5 c6 : Value) (w : World) (v : Value) : Prop := ∃ b, v = .pointer (some ⟨b, o, none⟩) ∧ b < w.heap.size ∧ w.cell? ⟨b, o, none⟩ = some c0 ∧ w.cell? ⟨b, o + 1, none⟩ = some c1 ∧ w.cell? ⟨b, o + 2, none⟩ = some c2 ∧ w.cell? ⟨b, o + 3, none⟩ = some c3 ∧ w.cell? ⟨b, o + 4, none⟩ = some c4 ∧
  w.cell? ⟨b, o + 5, none⟩ = some c5 ∧ w.cell? ⟨b, o + 6, none⟩ = some c6
theorem TmPtr.stay {o : Nat} {c0 c1 c2 c3 c4 c5 c6 : Value} {w w' : World} {v : Value} (hb : Below w.heap.size w w') (h : TmPtr o c0 c1 c2 c3 c4 c5 c6 w v) : TmPtr o c0 c1 c2 c3 c4 c5 c6 w' v := by
  obtain ⟨b, e, hl, h0, h1, h2, h3, h4, h5, h6⟩ := h
  exact ⟨b, e, Nat.lt_of_lt_of_le hl hb.size, (hb.cell (p := ⟨b, _, none⟩) hl).trans h0, (hb.cell (p := ⟨b, _, none⟩) hl).trans h1, (hb.cell (p := ⟨b, _, none⟩) hl).trans h2, (hb.cell (p := ⟨b, _, none⟩) hl).trans h3, (hb.cell (p := ⟨b, _, none⟩) hl).trans h4,
    (hb.cell (p := ⟨b, _, none⟩) hl).trans h5, (hb.cell (p := ⟨b, _, none⟩) hl).trans h6⟩
theorem two_ptr0 {c0 c1 c2 c3 c4 c5 c6 d0 d1 d2 d3 d4 d5 d6 : Value} {w : World} {b : Nat} (h : w.heap[b]? = some (.cells #[c0, c1, c2, c3, c4, c5, c6, d0, d1, d2, d3, d4, d5, d6] 48 (0, 0))) :
    TmPtr 0 c0 c1 c2 c3 c4 c5 c6 w (.pointer (some ⟨b, 0, none⟩)) :=
  ⟨b, rfl, (Array.getElem?_eq_some_iff.1 h).1, cell_of_block' h _ rfl, cell_of_block' h _ rfl, cell_of_block' h _ rfl, cell_of_block' h _ rfl, cell_of_block' h _ rfl, cell_of_block' h _ rfl, cell_of_block' h _ rfl⟩
theorem two_ptr1 {c0 c1 c2 c3 c4 c5 c6 d0 d1 d2 d3 d4 d5 d6 : Value} {w : World} {b : Nat} (h : w.heap[b]? = some (.cells #[c0, c1, c2, c3, c4, c5, c6, d0, d1, d2, d3, d4, d5, d6] 48 (0, 0))) :
    TmPtr 7 d0 d1 d2 d3 d4 d5 d6 w (.pointer (some ⟨b, 7, none⟩)) :=
  ⟨b, rfl, (Array.getElem?_eq_some_iff.1 h).1, cell_of_block' h _ rfl, cell_of_block' h _ rfl, cell_of_block' h _ rfl, cell_of_block' h _ rfl, cell_of_block' h _ rfl, cell_of_block' h _ rfl, cell_of_block' h _ rfl⟩
/-- Terms in a row, in blocks from B on. -/
def RowSix (B : Nat) (l : List Tm) (w : World) (v : Value) : Prop := ∃ ra rn rc, v = .slice ra rn rc ∧ RepMs (fun b => B ≤ b ∧ b < w.heap.size) w l v
theorem RowSix.stay {B : Nat} {l : List Tm} {w w' : World} {v : Value} (hb : Below w.heap.size w w') (h : RowSix B l w v) : RowSix B l w' v := by
  obtain ⟨a, b, c, e, h⟩ := h
  exact ⟨a, b, c, e, RepMs.on (fun k hk => ⟨hk.1, Nat.lt_of_lt_of_le hk.2 hb.size⟩) (fun k hk => hb.block k hk.2) h⟩
theorem row_two {B : Nat} {y z : Tm} {w : World} {c0 c1 c2 c3 c4 c5 c6 d0 d1 d2 d3 d4 d5 d6 : Value} (hB : B ≤ w.heap.size) (h1 : RepM (fun _ => False) w y c0 c1 c2 c3 c4 c5 c6) (h2 : RepM (fun _ => False) w z d0 d1 d2 d3 d4 d5 d6) :
    RowSix B [y, z] (w.alloc (.cells #[c0, c1, c2, c3, c4, c5, c6, d0, d1, d2, d3, d4, d5, d6] 48)) (.slice (some ⟨w.heap.size, 0, none⟩) 2 2) :=
  ⟨_, _, _, rfl, slg_row (alloc_new' w _) ⟨hB, by simp⟩ rfl (by simp) (fun i h => match i, h with
    | 0, _ => RepM.on (fun _ h => h.elim) (fun _ h => h.elim) _ h1
    | 1, _ => RepM.on (fun _ h => h.elim) (fun _ h => h.elim) _ h2)⟩
theorem row_one {B : Nat} {y : Tm} {w : World} {c0 c1 c2 c3 c4 c5 c6 : Value} (hB : B ≤ w.heap.size) (h1 : RepM (fun b => B ≤ b ∧ b < w.heap.size) w y c0 c1 c2 c3 c4 c5 c6) :
    RowSix B [y] (w.alloc (.cells #[c0, c1, c2, c3, c4, c5, c6] 48)) (.slice (some ⟨w.heap.size, 0, none⟩) 1 1) :=
  ⟨_, _, _, rfl, slg_row (alloc_new' w _) ⟨hB, by simp⟩ rfl (by simp) (fun i h => match i, h with
    | 0, _ => RepM.on (fun k hk => ⟨hk.1, by simp; omega⟩) (fun k hk => Below.heap_alloc _ _ _ hk.2) _ h1)⟩
/-- A new literal, in blocks from B on. -/
def MadeLi (y : Li) (w : World) (e : Ending) (w' : World) : Prop := ∃ sl, e = .returned (.agg #[.int .i64 y.kind, .string y.name, sl]) ∧ RepLi (fun b => w.heap.size ≤ b ∧ b < w'.heap.size) w' y (.int .i64 y.kind) (.string y.name) sl ∧ Below w.heap.size w w'
theorem boxLi_set {w : World} {k : Nat} {c0 c1 c2 : Value} (h : BoxLi w k c0 c1 c2) (d0 d1 d2 : Value) : BoxLi (((w.setCell ⟨k, 0, none⟩ d0).setCell ⟨k, 1, none⟩ d1).setCell ⟨k, 2, none⟩ d2) k d0 d1 d2 :=
  heap_setCell_same _ _ _ _ _ _ (heap_setCell_same _ _ _ _ _ _ (heap_setCell_same _ _ _ _ _ _ h))
theorem cmp_at {j : Nat} (h : j < 6) : (#[.string ⟨#[61, 61]⟩, .string ⟨#[33, 61]⟩, .string ⟨#[60]⟩, .string ⟨#[60, 61]⟩, .string ⟨#[62]⟩, .string ⟨#[62, 61]⟩] : Array Value)[j]? = some (.string (cmp6 j)) := by
  match j, h with
  | 0, _ => rfl
  | 1, _ => rfl
  | 2, _ => rfl
  | 3, _ => rfl
  | 4, _ => rfl
  | 5, _ => rfl
/-- Two texts in a row. -/
def StrTwo (w : World) (v : Value) : Prop := ∃ b, v = .slice (some ⟨b, 0, none⟩) 2 2 ∧ w.heap[b]? = some (.cells #[.string ⟨#[43]⟩, .string ⟨#[45]⟩] 9 (0, 0))
theorem StrTwo.stay {w w' : World} {v : Value} (hb : Below w.heap.size w w') (h : StrTwo w v) : StrTwo w' v := by
  obtain ⟨b, e, h⟩ := h
  exact ⟨b, e, (hb.block b (Array.getElem?_eq_some_iff.1 h).1).trans h⟩
def StrPtr (o : Nat) (s : ByteArray) (w : World) (v : Value) : Prop := ∃ b, v = .pointer (some ⟨b, o, none⟩) ∧ b < w.heap.size ∧ w.cell? ⟨b, o, none⟩ = some (.string s)
theorem StrPtr.stay {o : Nat} {s : ByteArray} {w w' : World} {v : Value} (hb : Below w.heap.size w w') (h : StrPtr o s w v) : StrPtr o s w' v := by
  obtain ⟨b, e, hl, h⟩ := h
  exact ⟨b, e, Nat.lt_of_lt_of_le hl hb.size, (hb.cell (p := ⟨b, o, none⟩) hl).trans h⟩
theorem str_ptr0 {w : World} {b : Nat} (h : w.heap[b]? = some (.cells #[.string ⟨#[43]⟩, .string ⟨#[45]⟩] 9 (0, 0))) : StrPtr 0 ⟨#[43]⟩ w (.pointer (some ⟨b, 0, none⟩)) :=
  ⟨b, rfl, (Array.getElem?_eq_some_iff.1 h).1, cell_of_block' h _ rfl⟩
theorem str_ptr1 {w : World} {b : Nat} (h : w.heap[b]? = some (.cells #[.string ⟨#[43]⟩, .string ⟨#[45]⟩] 9 (0, 0))) : StrPtr 1 ⟨#[45]⟩ w (.pointer (some ⟨b, 1, none⟩)) :=
  ⟨b, rfl, (Array.getElem?_eq_some_iff.1 h).1, cell_of_block' h _ rfl⟩
/-- A term made in blocks from B on. -/
def MadeSix (B : Nat) (y : Tm) (s : ByteArray) (w : World) (v : Value) : Prop := ∃ c6, v = .agg #[.int .i64 4, .string s, .int .i64 0, .int .i64 0, .string ⟨#[]⟩, .slice none 0 0, c6] ∧
  RepM (fun b => B ≤ b ∧ b < w.heap.size) w y (.int .i64 4) (.string s) (.int .i64 0) (.int .i64 0) (.string ⟨#[]⟩) (.slice none 0 0) c6
theorem MadeSix.stay {B : Nat} {y : Tm} {s : ByteArray} {w w' : World} {v : Value} (hb : Below w.heap.size w w') (h : MadeSix B y s w v) : MadeSix B y s w' v := by
  obtain ⟨c, e, h⟩ := h
  exact ⟨c, e, RepM.on (fun k hk => ⟨hk.1, Nat.lt_of_lt_of_le hk.2 hb.size⟩) (fun k hk => hb.block k hk.2) y h⟩
theorem made_sum {B : Nat} {y z : Tm} {s : ByteArray} {w : World} {ra : Option Addr} {rn rc : Nat} (hs : s.size ≤ maxLen) (h : RepMs (fun b => B ≤ b ∧ b < w.heap.size) w [y, z] (.slice ra rn rc)) :
    MadeSix B (sumZ y z s) s w (.agg #[.int .i64 4, .string s, .int .i64 0, .int .i64 0, .string ⟨#[]⟩, .slice none 0 0, .slice ra rn rc]) :=
  ⟨_, rfl, repM_mk.2 ⟨rfl, rfl, small64 (by omega), hs, zV_rep _ w, h⟩⟩
theorem cmp6_size (i : Nat) : (cmp6 i).size ≤ maxLen := by
  match i with
  | 0 => decide
  | 1 => decide
  | 2 => decide
  | 3 => decide
  | 4 => decide
  | 5 => decide
  | _ + 6 => exact Nat.zero_le _

end Go.Proofs.Ytkaiihoijcpldaa

/-
  A region that draws its order, one of whose operations (an append) turns what stands, and whose last one hangs on all the others: by facts that stand, ahead of that operation and behind it.
-/
namespace Go.Proofs.Ytkaiihoijcpldaa
open Go

section
variable {P : Program} {ops : Array Oper} {Q : Exit → Act → World → Prop}

/-- What operation t hangs on ('early'): each such is waited for by another such, or by t. -/
def okEarly (ops : Array Oper) (t : Nat) (early : Nat → Bool) : Bool :=
  decide (t + 1 < ops.size) && (List.range ops.size).all fun i => !early i || (decide (i < t) && (List.range ops.size).any fun j => (j == t || early j) && (match ops[j]? with | some o' => o'.after.any (fun e => Region.binds .any e && e.on == i) | none => false))
theorem okEarly.at {t i : Nat} {early : Nat → Bool} (h : okEarly ops t early = true) (hi : i < ops.size) (he : early i = true) : i < t ∧ ∃ (j : Nat) (o' : Oper), (j = t ∨ early j = true) ∧ ops[j]? = some o' ∧ ∃ e ∈ o'.after, Region.binds .any e = true ∧ e.on = i := by
  unfold okEarly at h
  simp only [Bool.and_eq_true, List.all_eq_true] at h
  have h1 := h.2 i (List.mem_range.2 hi)
  rw [he] at h1
  simp only [Bool.not_true, Bool.false_or, Bool.and_eq_true, decide_eq_true_eq] at h1
  refine ⟨h1.1, ?_⟩
  obtain ⟨j, _, hj2⟩ := List.any_eq_true.1 h1.2
  simp only [Bool.and_eq_true, Bool.or_eq_true, beq_iff_eq] at hj2
  obtain ⟨g1, g2⟩ := hj2
  split at g2
  · rename_i o' ho'
    obtain ⟨e, hee, hb⟩ := Array.any_eq_true'.1 g2
    simp only [Bool.and_eq_true, beq_iff_eq] at hb
    exact ⟨j, o', g1, ho', e, hee, hb.1, hb.2⟩
  · cases g2

/-- What is asked of one operation that is neither t nor the last, in phase ph (has t been?). -/
def StepP (P : Program) (ops : Array Oper) (A : Act) (F : Bool → World → Nat → Value → Prop) (G : Bool → World → Prop) (Q : Exit → Act → World → Prop) (ph : Bool) (i : Nat) (o : Oper) : Prop :=
  ∀ (a : Act) (w : World), Off ops.pop A a → G ph w →
    (∀ (j : Nat) (o' : Oper) (d : Tmp), (o.after.any fun e => Region.binds .any e && e.on == j) = true → ops[j]? = some o' → o'.dst = some d → ∃ v, a.tmps[d]? = some v ∧ F ph w j v) →
    ∀ K : Act → World → Prop, Shut (∀ v w', G ph w' → F ph w' i v → (∀ j u, F ph w j u → F ph w' j u) → K (a.put o.dst v) w') → if Region.wanted o (yielded ops a.tmps) = true then Oper.wp P o a w K Q else K (a.put o.dst undef) w
/-- What is asked of operation t. -/
def StepT (P : Program) (ops : Array Oper) (A : Act) (F : Bool → World → Nat → Value → Prop) (G : Bool → World → Prop) (Q : Exit → Act → World → Prop) (i : Nat) (o : Oper) : Prop :=
  ∀ (a : Act) (w : World), Off ops.pop A a → G false w →
    (∀ (j : Nat) (o' : Oper) (d : Tmp), (o.after.any fun e => Region.binds .any e && e.on == j) = true → ops[j]? = some o' → o'.dst = some d → ∃ v, a.tmps[d]? = some v ∧ F false w j v) →
    ∀ K : Act → World → Prop, Shut (∀ v w', G true w' → F true w' i v → (∀ j u, j ≠ i → F false w j u → F true w' j u) → K (a.put o.dst v) w') → if Region.wanted o (yielded ops a.tmps) = true then Oper.wp P o a w K Q else K (a.put o.dst undef) w
def StepsP (P : Program) (ops : Array Oper) (A : Act) (F : Bool → World → Nat → Value → Prop) (G : Bool → World → Prop) (Q : Exit → Act → World → Prop) (t : Nat) (early : Nat → Bool) : Nat → List Oper → Prop
  | _, [] => True
  | i, o :: os => (match i == t, early i with
      | true, _ => StepT P ops A F G Q i o
      | false, true => StepP P ops A F G Q false i o
      | false, false => ∀ ph, StepP P ops A F G Q ph i o) ∧ StepsP P ops A F G Q t early (i + 1) os
theorem StepsP.at {A : Act} {F : Bool → World → Nat → Value → Prop} {G : Bool → World → Prop} {t : Nat} {early : Nat → Bool} : ∀ (os : List Oper) (k i : Nat) (o : Oper), StepsP P ops A F G Q t early k os → os[i]? = some o →
    (match k + i == t, early (k + i) with
      | true, _ => StepT P ops A F G Q (k + i) o
      | false, true => StepP P ops A F G Q false (k + i) o
      | false, false => ∀ ph, StepP P ops A F G Q ph (k + i) o)
  | [], _, _, _, _, h => by simp at h
  | x :: os, k, 0, o, hs, h => by simp at h; subst h; exact hs.1
  | x :: os, k, i + 1, o, hs, h => by
    have := StepsP.at os (k + 1) i o hs.2 (by simpa using h)
    rw [show k + (i + 1) = k + 1 + i by omega]; exact this

theorem wp_region_factsP {id : Nat} {A : Act} {w : World} (hm : P.follows .mixedOrders = true) (n : Nat) (hn : A.tmps.size = n) (hok : okOpsL ops n = true) (t : Nat) (early : Nat → Bool) (het : okEarly ops t early = true) (F : Bool → World → Nat → Value → Prop) (G : Bool → World → Prop) (hG : G false w.drew)
    (hsteps : StepsP P ops A F G Q t early 0 ops.toList.dropLast)
    {o : Oper} (hback : ops.back? = some o) (hlast : ∀ a w, Off ops.pop A a → G true w → (∀ (i : Nat) (o : Oper) (d : Tmp), i + 1 < ops.size → ops[i]? = some o → o.dst = some d → ∃ v, a.tmps[d]? = some v ∧ F true w i v) → if Region.wanted o (yielded ops a.tmps) = true then Oper.wp P o a w (fun a' w' => Q .normal a' w') Q else Q .normal (a.put o.dst undef) w) :
    (Code.region id ops true).wp P Q A w := by
  have htl : t + 1 < ops.size := by unfold okEarly at het; simp only [Bool.and_eq_true, decide_eq_true_eq] at het; exact het.1
  refine wp_region_any hm (wpAny_inv (J := fun listed a w => listed.size = ops.size ∧ ((listed.getD (ops.size - 1) false = false ∧ Off ops.pop A a ∧ G (listed.getD t false) w ∧ (∀ (i : Nat) (o : Oper), ops[i]? = some o → listed.getD i false = true → ∀ e ∈ o.after, Region.binds .any e = true → listed.getD e.on false = true) ∧
      ∀ (i : Nat) (o : Oper) (d : Tmp), ops[i]? = some o → o.dst = some d → listed.getD i false = true → ∃ v, a.tmps[d]? = some v ∧ F (listed.getD t false) w i v) ∨ ((∀ i, i < ops.size → listed.getD i false = true) ∧ Q .normal a w))) ?_ ?_ _ _ _ _ ?_ ?_)
  · rintro listed a w i ⟨hsz, hJ⟩ hi
    obtain ⟨h1, o, ho, hall⟩ := mem_ready.1 hi
    have HBK := hback
    have hin := getD_lt h1
    have hlf : listed.getD i false = false := by
      have : i < listed.size := hin
      simp [this] at h1 ⊢; exact h1
    rcases hJ with ⟨hl0, hoff, hg, hcl, hf⟩ | ⟨hal, -⟩
    case inr => rw [hal i (by omega)] at hlf; cases hlf
    obtain ⟨kaft, krest⟩ := okOpsL.at hok ho
    by_cases hlt : i + 1 < ops.size
    · obtain ⟨⟨d, k2, k3⟩, k4, -⟩ := krest hlt
      have hst := StepsP.at ops.toList.dropLast 0 i o hsteps (by rw [List.getElem?_dropLast, if_pos (by simp; omega)]; simpa using ho)
      rw [Nat.zero_add] at hst
      have up : ∀ q, listed.getD q false = true → (listed.setIfInBounds i true).getD q false = true := fun q hq => by
        by_cases e : i = q
        · subst e; simp [hin]
        · rw [getD_set_ne false e]; exact hq
      have closed : ∀ (i' : Nat) (o' : Oper), ops[i']? = some o' → (listed.setIfInBounds i true).getD i' false = true → ∀ e ∈ o'.after, Region.binds .any e = true → (listed.setIfInBounds i true).getD e.on false = true := fun i' o' ho' hl' e he hb => by
        by_cases e' : i' = i
        · subst e'
          obtain rfl : o' = o := Option.some.inj (ho'.symm.trans ho)
          exact up _ (hall e he hb)
        · rw [getD_set_ne false (fun h => e' h.symm)] at hl'
          exact up _ (hcl i' o' ho' hl' e he hb)
      have nl : (listed.setIfInBounds i true).getD (ops.size - 1) false = false := by rw [getD_set_ne false (by omega)]; exact hl0
      have dep : ∀ ph, ph = listed.getD t false → (∀ (j : Nat) (o' : Oper) (d : Tmp), (o.after.any fun e => Region.binds .any e && e.on == j) = true → ops[j]? = some o' → o'.dst = some d → ∃ v, a.tmps[d]? = some v ∧ F ph w j v) := fun ph hph j o' d' hj ho' hd' => by
        obtain ⟨e, he, hb⟩ := Array.any_eq_true'.1 hj
        simp only [Bool.and_eq_true, beq_iff_eq] at hb
        rw [hph]
        exact hf j o' d' ho' hd' (by rw [← hb.2]; exact hall e he hb.1)
      have facts : ∀ (ph ph' : Bool) (v : Value) (w' : World), ph = listed.getD t false → F ph' w' i v → (∀ j u, j ≠ i → F ph w j u → F ph' w' j u) → ∀ (j : Nat) (o' : Oper) (d' : Tmp), ops[j]? = some o' → o'.dst = some d' → (listed.setIfInBounds i true).getD j false = true → ∃ u, (a.put o.dst v).tmps[d']? = some u ∧ F ph' w' j u := fun ph ph' v w' hph hf' hstay j o' d' ho' hd' hl => by
        rw [k2]
        by_cases e : j = i
        · subst e
          obtain rfl : o' = o := Option.some.inj (ho'.symm.trans ho)
          obtain rfl : d' = d := Option.some.inj (hd'.symm.trans k2)
          refine ⟨v, ?_, hf'⟩
          show (a.tmps.setIfInBounds d' v)[d']? = _
          rw [Array.getElem?_setIfInBounds, if_pos rfl, if_pos (by rw [hoff.size, hn]; exact k3)]
        · rw [getD_set_ne false (fun h => e h.symm)] at hl
          obtain ⟨u, hu, hF⟩ := hf j o' d' ho' hd' hl
          rw [← hph] at hF
          refine ⟨u, ?_, hstay j u e hF⟩
          have hne : d ≠ d' := fun h => k4 j o' ho' e (by rw [hd', k2, h])
          show (a.tmps.setIfInBounds d v)[d']? = _
          rw [Array.getElem?_setIfInBounds, if_neg hne]; exact hu
      have offs : ∀ v, Off ops.pop A (a.put o.dst v) := fun v => by rw [k2]; exact hoff.put (i := i) (o := o) (by rw [Array.getElem?_pop, if_pos (by omega)]; exact ho) k2 v
      have fin : ∀ (K : Act → World → Prop), (if Region.wanted o (yielded ops a.tmps) = true then Oper.wp P o a w K Q else K (a.put o.dst undef) w) → (∀ a' w', K a' w' → (listed.setIfInBounds i true).size = ops.size ∧ (((listed.setIfInBounds i true).getD (ops.size - 1) false = false ∧ Off ops.pop A a' ∧ G ((listed.setIfInBounds i true).getD t false) w' ∧ (∀ (i' : Nat) (o : Oper), ops[i']? = some o → (listed.setIfInBounds i true).getD i' false = true → ∀ e ∈ o.after, Region.binds .any e = true → (listed.setIfInBounds i true).getD e.on false = true) ∧
          ∀ (j : Nat) (o : Oper) (d : Tmp), ops[j]? = some o → o.dst = some d → (listed.setIfInBounds i true).getD j false = true → ∃ v, a'.tmps[d]? = some v ∧ F ((listed.setIfInBounds i true).getD t false) w' j v) ∨ ((∀ i', i' < ops.size → (listed.setIfInBounds i true).getD i' false = true) ∧ Q .normal a' w'))) → wpOp P ops Q i (fun a' w' => (listed.setIfInBounds i true).size = ops.size ∧ (((listed.setIfInBounds i true).getD (ops.size - 1) false = false ∧ Off ops.pop A a' ∧ G ((listed.setIfInBounds i true).getD t false) w' ∧ (∀ (i' : Nat) (o : Oper), ops[i']? = some o → (listed.setIfInBounds i true).getD i' false = true → ∀ e ∈ o.after, Region.binds .any e = true → (listed.setIfInBounds i true).getD e.on false = true) ∧
          ∀ (j : Nat) (o : Oper) (d : Tmp), ops[j]? = some o → o.dst = some d → (listed.setIfInBounds i true).getD j false = true → ∃ v, a'.tmps[d]? = some v ∧ F ((listed.setIfInBounds i true).getD t false) w' j v) ∨ ((∀ i', i' < ops.size → (listed.setIfInBounds i true).getD i' false = true) ∧ Q .normal a' w'))) a w := by
        intro K key hK
        refine wpOp_mono (fun a' w' h => hK a' w' h) ?_
        unfold wpOp
        rw [ho]
        simp only
        split
        · rename_i hw; rw [if_pos hw] at key; exact .inl key
        · rename_i hw; rw [if_neg hw] at key; exact key
      by_cases hit : i = t
      · subst hit
        simp only [beq_self_eq_true] at hst
        have hph : listed.getD i false = false := hlf
        have hnew : (listed.setIfInBounds i true).getD i false = true := by simp [hin]
        rw [hph] at hg
        refine fin (fun a' w' => ∃ v, a' = a.put o.dst v ∧ G true w' ∧ F true w' i v ∧ ∀ j u, j ≠ i → F false w j u → F true w' j u) (hst a w hoff hg (dep false hph.symm) _ fun v w' g1 g2 g3 => ⟨v, rfl, g1, g2, g3⟩) ?_
        rintro a' w' ⟨v, rfl, g1, g2, g3⟩
        refine ⟨by rw [Array.size_setIfInBounds]; exact hsz, .inl ⟨nl, offs v, by rw [hnew]; exact g1, closed, ?_⟩⟩
        rw [hnew]
        exact facts false true v w' hph.symm g2 g3
      · have hnew : (listed.setIfInBounds i true).getD t false = listed.getD t false := getD_set_ne false hit
        have hbeq : (i == t) = false := by simpa using hit
        rw [hbeq] at hst
        -- what t hangs on has been, once t has
        have early_done : listed.getD t false = true → ∀ k q, q + k = t → 0 < k → early q = true → listed.getD q false = true := by
          intro hlt' k
          induction k using Nat.strongRecOn with
          | _ k ih =>
            intro q hq hk he
            obtain ⟨h2, j, o', hj, ho', e, hee, hb, hon⟩ := okEarly.at het (i := q) (by omega) he
            have hqj : q < j := by rw [← hon]; exact (okOpsL.at hok ho').1 e hee
            have hjl : listed.getD j false = true := by
              rcases hj with rfl | hj
              · exact hlt'
              · have hjt := (okEarly.at het (i := j) (Array.getElem?_eq_some_iff.1 ho').1 hj).1
                exact ih (t - j) (by omega) j (by omega) (by omega) hj
            rw [← hon]; exact hcl j o' ho' hjl e hee hb
        cases he : early i with
        | true =>
          rw [he] at hst
          simp only at hst
          have hph : listed.getD t false = false := by
            cases hq : listed.getD t false with
            | false => rfl
            | true =>
              have := early_done hq (t - i) i (by have := (okEarly.at het (by omega) he).1; omega) (by have := (okEarly.at het (by omega) he).1; omega) he
              rw [hlf] at this; cases this
          rw [hph] at hg hnew
          refine fin (fun a' w' => ∃ v, a' = a.put o.dst v ∧ G false w' ∧ F false w' i v ∧ ∀ j u, F false w j u → F false w' j u) (hst a w hoff hg (dep false hph.symm) _ fun v w' g1 g2 g3 => ⟨v, rfl, g1, g2, g3⟩) ?_
          rintro a' w' ⟨v, rfl, g1, g2, g3⟩
          refine ⟨by rw [Array.size_setIfInBounds]; exact hsz, .inl ⟨nl, offs v, by rw [hnew]; exact g1, closed, ?_⟩⟩
          rw [hnew]
          exact facts false false v w' hph.symm g2 (fun j u _ h => g3 j u h)
        | false =>
          rw [he] at hst
          simp only at hst
          refine fin (fun a' w' => ∃ v, a' = a.put o.dst v ∧ G (listed.getD t false) w' ∧ F (listed.getD t false) w' i v ∧ ∀ j u, F (listed.getD t false) w j u → F (listed.getD t false) w' j u) (hst (listed.getD t false) a w hoff hg (dep _ rfl) _ fun v w' g1 g2 g3 => ⟨v, rfl, g1, g2, g3⟩) ?_
          rintro a' w' ⟨v, rfl, g1, g2, g3⟩
          refine ⟨by rw [Array.size_setIfInBounds]; exact hsz, .inl ⟨nl, offs v, by rw [hnew]; exact g1, closed, ?_⟩⟩
          rw [hnew]
          exact facts _ _ v w' rfl g2 (fun j u _ h => g3 j u h)
    · obtain rfl : i = ops.size - 1 := by have := (Array.getElem?_eq_some_iff.1 ho).1; omega
      have hoe := Option.some.inj (HBK.symm.trans (by rw [Array.back?_eq_getElem?]; exact ho))
      subst hoe
      have all : ∀ k j, j + k + 1 = ops.size → 0 < k → listed.getD j false = true := by
        intro k
        induction k using Nat.strongRecOn with
        | _ k ih =>
          intro j hj hk
          have hoj : ops[j]? = some (ops[j]'(by omega)) := Array.getElem?_eq_getElem _
          obtain ⟨-, hr⟩ := okOpsL.at hok hoj
          obtain ⟨-, -, j', o', hj', e, he, hb, hon⟩ := hr (by omega)
          have hlt' : j < j' := by rw [← hon]; exact (okOpsL.at hok hj').1 e he
          have hj'lt := (Array.getElem?_eq_some_iff.1 hj').1
          by_cases hL : j' = ops.size - 1
          · subst hL
            obtain rfl := Option.some.inj (hj'.symm.trans ho)
            rw [← hon]; exact hall e he hb
          · have := ih (ops.size - 1 - j') (by omega) j' (by omega) (by omega)
            rw [← hon]; exact hcl j' o' hj' this e he hb
      have ht1 : listed.getD t false = true := all (ops.size - 1 - t) t (by omega) (by omega)
      rw [ht1] at hg hf
      have key := hlast a w hoff hg (fun i' o' d' hi' ho' hd' => hf i' o' d' ho' hd' (all (ops.size - 1 - i') i' (by omega) (by omega)))
      have hop : wpOp P ops Q (ops.size - 1) (fun a' w' => Q .normal a' w') a w := by
        unfold wpOp
        rw [ho]
        simp only
        split
        · rename_i hw; rw [if_pos hw] at key; exact .inl key
        · rename_i hw; rw [if_neg hw] at key; exact key
      refine wpOp_mono (fun a' w' hq => ⟨by rw [Array.size_setIfInBounds]; exact hsz, .inr ⟨fun i' hi' => ?_, hq⟩⟩) hop
      by_cases e : ops.size - 1 = i'
      · subst e; simp [hin]
      · rw [getD_set_ne false e]; exact all (ops.size - 1 - i') i' (by omega) (by omega)
  · rintro listed a w ⟨hsz, hJ⟩ hr
    rcases hJ with ⟨hl0, -⟩ | ⟨-, hq⟩
    case inr => exact hq
    exfalso
    have all : ∀ i, i < ops.size → listed.getD i false = true := by
      intro i
      induction i using Nat.strongRecOn with
      | _ i ih =>
        intro hi
        cases hl : listed.getD i true with
        | true => simpa [hsz, hi] using hl
        | false =>
          have ho : ops[i]? = some ops[i] := Array.getElem?_eq_getElem hi
          have : i ∈ Region.ready .any ops listed := mem_ready.2 ⟨hl, ops[i], ho, fun e he _ => ih e.on ((okOpsL.at hok ho).1 e he) (Nat.lt_trans ((okOpsL.at hok ho).1 e he) hi)⟩
          rw [hr] at this; cases this
    rw [all (ops.size - 1) (by omega)] at hl0
    cases hl0
  · exact Nat.le_trans List.countP_le_length (by simp)
  · exact ⟨by simp, .inl ⟨none_listed _ _, Off.refl _ _, by rw [none_listed]; exact hG, fun i o _ hl => (by rw [none_listed] at hl; cases hl), fun i o d _ _ hl => by rw [none_listed] at hl; cases hl⟩⟩
end
end Go.Proofs.Ytkaiihoijcpldaa

/-
  What stands from round to round where a call appends to a row of its own that lies in a variable.
-/
namespace Go.Proofs.Ytkaiihoijcpldaa
open Go.RowKit

/-- Behind an append to lv's row, which lies from block B on: all that lay in w, but for that row, stands. -/
structure Aft (w : World) (B : Nat) (lv : Value) (w' : World) : Prop where
  below : Below B w w'
  block : ∀ k, k < w.heap.size → lv.ownBlock ≠ some k → w'.heap[k]? = w.heap[k]?
  size : w.heap.size ≤ w'.heap.size
theorem Aft.of {α : Type} {K : Kd α} {S : Nat → Prop} {w w1 w' : World} {B : Nat} {L : List α} {lv : Value} (ho : OwnK K S w B L lv) (hB : B ≤ w.heap.size) (hg : Below w.heap.size w w1) (h : w1.grownBy w' lv.ownBlock) : Aft w B lv w' := by
  have h1 := hg.size
  have h2 := h.size
  refine ⟨⟨h.os.trans hg.os, h.tape.trans hg.tape, h.output.trans hg.output, by omega, fun k hk => ?_⟩, fun k hk hne => ?_, by omega⟩
  · exact (h.block k (by omega) (fun e => by have := (OwnK.lies ho k e.symm).1; omega)).trans (hg.block k (by omega))
  · exact (h.block k (by omega) (fun e => hne e.symm)).trans (hg.block k hk)
/-- All below B stands, but for block bo. -/
structure But (bo B : Nat) (w w' : World) : Prop where
  os : w'.os = w.os
  tape : w'.tape = w.tape
  output : w'.output = w.output
  size : w.heap.size ≤ w'.heap.size
  block : ∀ k, k < B → k ≠ bo → w'.heap[k]? = w.heap[k]?
theorem But.refl (bo B : Nat) (w : World) : But bo B w w := ⟨rfl, rfl, rfl, Nat.le_refl _, fun _ _ _ => rfl⟩
theorem But.step {bo B B' : Nat} {w w1 w' : World} (h : But bo B w w1) (hB : B ≤ B') (hb : Below B' w1 w') : But bo B w w' :=
  ⟨hb.os.trans h.os, hb.tape.trans h.tape, hb.output.trans h.output, Nat.le_trans h.size hb.size, fun k hk hne => (hb.block k (by omega)).trans (h.block k hk hne)⟩
theorem But.trans {bo B B' : Nat} {w w1 w' : World} (h : But bo B w w1) (hB : B ≤ B') (hb : But bo B' w1 w') : But bo B w w' :=
  ⟨hb.os.trans h.os, hb.tape.trans h.tape, hb.output.trans h.output, Nat.le_trans h.size hb.size, fun k hk hne => (hb.block k (by omega) hne).trans (h.block k hk hne)⟩
theorem But.set {bo B : Nat} {w w1 : World} (h : But bo B w w1) (i : Nat) (v : Value) : But bo B w (w1.setCell ⟨bo, i, none⟩ v) := by
  have hb : Below bo w1 (w1.setCell ⟨bo, i, none⟩ v) := (Below.refl bo w1).setCell (p := ⟨bo, i, none⟩) (Nat.le_refl _) v
  exact ⟨hb.os.trans h.os, hb.tape.trans h.tape, hb.output.trans h.output, Nat.le_trans h.size hb.size, fun k hk hne => (Below.heap_setCell _ _ _ _ hne).trans (h.block k hk hne)⟩
theorem But.below {bo B B0 : Nat} {w w' : World} (h : But bo B w w') (h1 : B0 ≤ B) (h2 : B0 ≤ bo) : Below B0 w w' :=
  ⟨h.os, h.tape, h.output, h.size, fun k hk => h.block k (by omega) (by omega)⟩
theorem MineK.but {α : Type} {K : Kd α} {w w' : World} {bo base : Nat} {l : List α} {v : Value} (h : MineK K w base l v) (hb : But bo w.heap.size w w') (hne : bo < base) : MineK K w' base l v :=
  h.kept hb.size (fun k h1 h2 => hb.block k h2 (by omega))
/-- A row of one: its block. -/
def RowOf (B : Nat) (o : Obj) (w : World) (v : Value) : Prop := ∃ b, v = .slice (some ⟨b, 0, none⟩) 1 1 ∧ w.heap[b]? = some o ∧ B ≤ b
theorem RowOf.stay {B : Nat} {o : Obj} {w w' : World} {v : Value} (hb : Below w.heap.size w w') (h : RowOf B o w v) : RowOf B o w' v := by
  obtain ⟨b, e, h1, h2⟩ := h
  exact ⟨b, e, (hb.block b (Array.getElem?_eq_some_iff.1 h1).1).trans h1, h2⟩
theorem RowOf.new {B : Nat} {w : World} {cs : Array Value} {t : TypeId} (hB : B ≤ w.heap.size) : RowOf B (.cells cs t (0, 0)) (w.alloc (.cells cs t)) (.slice (some ⟨w.heap.size, 0, none⟩) 1 1) :=
  ⟨_, rfl, alloc_new' w _, hB⟩
def at2v (c0 c1 : Value) : Nat → Value
  | 0 => c0 | _ => c1
def at3v (c0 c1 c2 : Value) : Nat → Value
  | 0 => c0 | 1 => c1 | _ => c2
def at4v (c0 c1 c2 c3 : Value) : Nat → Value
  | 0 => c0 | 1 => c1 | 2 => c2 | _ => c3
def at6v (c0 c1 c2 c3 c4 c5 : Value) : Nat → Value
  | 0 => c0 | 1 => c1 | 2 => c2 | 3 => c3 | 4 => c4 | _ => c5
/-- The operation itself, as a step of a region that draws its order. -/
theorem step_append_by {P : Program} {ops : Array Oper} {o : Oper} {a : Act} {w w' : World} {K : Act → World → Prop} {Q : Exit → Act → World → Prop} {E : Prop} (hgd : o.guard = none) (s x : Operand) (t : TypeId)
    (ho : o.op = .call { callee := .builtin .append, args := #[s, x], argTypes := #[t, t] }) {v xv v' : Value} (hs : a.eval s = v) (hx : a.eval x = xv) (hrun : (Builtin.append_ #[t, t] o.type #[v, xv]).run P w = .ok v' w')
    (h : K (a.put o.dst v') w') : if Region.wanted o (yielded ops a.tmps) = true then Oper.wp P o a w K Q else E := by
  have hw : Region.wanted o (yielded ops a.tmps) = true := by simp [Region.wanted, hgd]
  rw [if_pos hw]
  unfold Oper.wp execOp
  simp only [ho, resolve, invoke, builtin, Sem.run_bind, Sem.run_pure, Result.andThen_ok, List.map_toArray, List.map_cons, List.map_nil, hs, hx, hrun]
  exact h

/-- A counter's way to its bound, one step on. -/
theorem measure_up {n k : Nat} (h : k < n) (hn : n ≤ 1000) : n - (intOf (.int .i64 (wrap64 ((k : Int) + 1)))).toNat < n - (intOf (.int .i64 (k : Int))).toNat := by
  have h2 : wrap64 ((k : Int) + 1) = (k : Int) + 1 := by unfold wrap64; omega
  rw [h2]
  simp only [intOf]
  omega

end Go.Proofs.Ytkaiihoijcpldaa

/-
  Layer 6's own 'Fact': of a raw one.
-/
namespace Go.Proofs.Ytkaiihoijcpldaa
open Go.RowKit

def StrFour (w : World) (v : Value) : Prop := ∃ b, v = .slice (some ⟨b, 0, none⟩) 4 4 ∧ w.heap[b]? = some (.cells #[.string ⟨#[97]⟩, .string ⟨#[98]⟩, .string ⟨#[99]⟩, .string ⟨#[100]⟩] 9 (0, 0))
theorem StrFour.stay {w w' : World} {v : Value} (hb : Below w.heap.size w w') (h : StrFour w v) : StrFour w' v := by
  obtain ⟨b, e, h⟩ := h
  exact ⟨b, e, (hb.block b (Array.getElem?_eq_some_iff.1 h).1).trans h⟩
theorem str_ptr4 {r : Nat} {w : World} {b : Nat} (hr : r < 4) (h : w.heap[b]? = some (.cells #[.string ⟨#[97]⟩, .string ⟨#[98]⟩, .string ⟨#[99]⟩, .string ⟨#[100]⟩] 9 (0, 0))) : StrPtr r (adrName r) w (.pointer (some ⟨b, r, none⟩)) :=
  ⟨b, rfl, (Array.getElem?_eq_some_iff.1 h).1, cell_of_block' h _ (match r, hr with
    | 0, _ => rfl
    | 1, _ => rfl
    | 2, _ => rfl
    | 3, _ => rfl)⟩
theorem link_iff {a : ByteArray} : a.toList = [108, 105, 110, 107] ↔ a = ⟨#[108, 105, 110, 107]⟩ := by
  rw [Lib.toList_data]
  constructor
  · intro h
    obtain ⟨d⟩ := a
    exact congrArg ByteArray.mk (Array.toList_inj.1 h)
  · rintro rfl; rfl
theorem lg_of_slg {S : Nat → Prop} {w : World} {l : List V} {v : Value} (h : SlG S w 4 56 (fun x c => RepG S w x (c 0) (c 1) (c 2) (c 3)) l v) : RepLG S w l v := by
  obtain ⟨a, b, o, cap, e, h1, h2, h3, h4, h5⟩ := h
  exact ⟨a, b, o, cap, e, h1, h2, h3, h4, fun i hi => by
    obtain ⟨c, hc, hr⟩ := h5 i hi
    exact ⟨c 0, c 1, c 2, c 3, hc 0 (by omega), hc 1 (by omega), hc 2 (by omega), hc 3 (by omega), hr⟩⟩
theorem boxFa_set {w : World} {k : Nat} {c0 c1 : Value} (h : BoxFa w k c0 c1) (d0 d1 : Value) : BoxFa ((w.setCell ⟨k, 0, none⟩ d0).setCell ⟨k, 1, none⟩ d1) k d0 d1 :=
  heap_setCell_same _ _ _ _ _ _ (heap_setCell_same _ _ _ _ _ _ h)
def factTo (x : Rw) (k : Nat) : List V := (List.range k).map (factArg x)
theorem factTo_succ (x : Rw) (k : Nat) : factTo x (k + 1) = factTo x k ++ [factArg x k] := by
  rw [factTo, factTo, List.range_succ, List.map_append]; rfl
def MadeFa (y : Fa) (w : World) (e : Ending) (w' : World) : Prop := ∃ sl, e = .returned (.agg #[.string y.name, sl]) ∧ RepFa (fun b => w.heap.size ≤ b ∧ b < w'.heap.size) w' y (.string y.name) sl ∧ Below w.heap.size w w'

set_option maxRecDepth 100000 in
set_option maxHeartbeats 20000000 in
theorem fact_any (x : Rw) (w : World) (hx : RwOk x) : Calls Try.prog 17 #[rwV x] w (MadeFa (factZ x) w) := by
  have HX := Lib.hid hx
  have hbd := pickZ_bd x.name 6 (by omega)
  obtain ⟨i, hi⟩ := Int.eq_ofNat_of_zero_le hbd.1
  have HI : Hid (i < 6) := by show _ < _; omega
  have HZ := Lib.hid hi
  have HDO : Hid (declOf x = decl6 i) := by show _ = _; rw [declOf, hi]; simp
  clear hx hbd hi
  rw [rwV]
  go_enter Try.func17, Try.ntmps17
  go_wp2_with fail
  have x1 := boxRw_new w x; have b1 := below_alloc w (.cells #[.int .i64 x.kind, .int .i64 x.name, .int .i64 x.n0, .int .i64 x.n1, .int .i64 x.n2, .int .i64 x.n3] 60)
  have s1 := World.size_alloc w (.cells #[.int .i64 x.kind, .int .i64 x.name, .int .i64 x.n0, .int .i64 x.n1, .int .i64 x.n2, .int .i64 x.n3] 60)
  generalize w.alloc (.cells #[.int .i64 x.kind, .int .i64 x.name, .int .i64 x.n0, .int .i64 x.n1, .int .i64 x.n2, .int .i64 x.n3] 60) = wa at *
  have t1 := boxFa_new wa (.string ⟨#[]⟩) (.slice none 0 0); have b2 := below_alloc wa (.cells #[.string ⟨#[]⟩, .slice none 0 0] 56)
  have s2 := World.size_alloc wa (.cells #[.string ⟨#[]⟩, .slice none 0 0] 56)
  generalize wa.alloc (.cells #[.string ⟨#[]⟩, .slice none 0 0] 56) = w1 at *
  rw [s1] at t1
  have X1 := Lib.hid (x1.on b2); have T1 := Lib.hid t1; have B1 := Lib.hid (Below.step b1 b2)
  clear x1 b1 s1 t1 b2 s2
  refine wp_region_factsL (by rfl) 68 (by rfl) (by kernel_rfl) (fun wz iz vz => (iz = 0 → RelAt w1.heap.size wz vz) ∧ (iz = 1 → vz = .pointer (some ⟨w.heap.size, 1, none⟩)) ∧ (iz = 2 → vz = .int .i64 x.name) ∧ (iz = 3 → vz = .int .i64 i) ∧ (iz = 4 → DeclPtr i wz vz) ∧ (iz = 5 → vz = .agg #[.string (decl6 i).name, .int .i64 (decl6 i).arity]) ∧ (iz = 6 → ZeroDe w1.heap.size wz vz)) (fun w' => Below w1.heap.size w1 w') (Below.drew (Below.refl _ _)) ⟨?s0, ?s1, ?s2, ?s3, ?s4, ?s5, ?s6, trivial⟩ (by rfl) ?last (by decide)
  case s0 =>
    intro a w' hoff hg hdep K hK
    rw [if_pos (by rfl)]
    go_simp
    refine (relations_any w').mono ?_
    rintro e w2' ⟨rfl, hr, hb⟩
    have hp : RelAt w1.heap.size w2' (.slice (some ⟨w'.heap.size, 0, none⟩) 6 6) := ⟨_, rfl, hg.size, RepDes.on (fun k hk => ⟨Nat.le_trans hg.size hk.1, hk.2⟩) (fun _ _ => rfl) hr⟩
    exact hK.out _ _ (Below.step hg hb) ⟨fun _ => hp, nn, nn, nn, nn, nn, nn⟩ (fun _ _ h => ⟨fun e => RelAt.stay hb (h.1 e), h.2.1, h.2.2.1, h.2.2.2.1, fun e => DeclPtr.stay hb (h.2.2.2.2.1 e), h.2.2.2.2.2.1, fun e => ZeroDe.stay hb (h.2.2.2.2.2.2 e)⟩)
  case s1 =>
    intro a w' hoff hg hdep K hK
    have h1 := off_at hoff 1 (v := .pointer (some ⟨w.heap.size, 0, none⟩)) (by kernel_rfl) rfl
    rw [if_pos (by rfl)]
    go_simp
    exact hK.out _ _ hg ⟨nn, fun _ => rfl, nn, nn, nn, nn, nn⟩ (fun _ _ h => h)
  case s2 =>
    intro a w' hoff hg hdep K hK
    obtain ⟨v1, e1, f1⟩ := hdep 1 _ 7 (by kernel_rfl) rfl rfl
    obtain rfl := (f1.2.1 rfl).symm
    rw [if_pos (by rfl)]
    obtain ⟨p0, p1, p2, p3, p4, p5⟩ := (X1.out.on hg).cells
    go_simp
    exact hK.out _ _ hg ⟨nn, nn, fun _ => rfl, nn, nn, nn, nn⟩ (fun _ _ h => h)
  case s3 =>
    intro a w' hoff hg hdep K hK
    obtain ⟨v2, e2, f2⟩ := hdep 2 _ 8 (by kernel_rfl) rfl rfl
    obtain rfl := (f2.2.2.1 rfl).symm
    rw [if_pos (by rfl)]
    go_simp
    refine (pick6_any x.name 6 w' HX.out.2.1 (by omega) (by omega)).mono ?_
    rintro e w2' ⟨rfl, rfl⟩
    rw [HZ.out]
    have hb := Below.refl w'.heap.size w'
    exact hK.out _ _ (Below.step hg hb) ⟨nn, nn, nn, fun _ => rfl, nn, nn, nn⟩ (fun _ _ h => ⟨fun e => RelAt.stay hb (h.1 e), h.2.1, h.2.2.1, h.2.2.2.1, fun e => DeclPtr.stay hb (h.2.2.2.2.1 e), h.2.2.2.2.2.1, fun e => ZeroDe.stay hb (h.2.2.2.2.2.2 e)⟩)
  case s4 =>
    intro a w' hoff hg hdep K hK
    obtain ⟨v0, e0, f0⟩ := hdep 0 _ 6 (by kernel_rfl) rfl rfl
    have g0 := f0.1 rfl
    obtain ⟨v3, e3, f3⟩ := hdep 3 _ 9 (by kernel_rfl) rfl rfl
    obtain rfl := (f3.2.2.2.1 rfl).symm
    obtain ⟨b8, rfl, hb8, hr8⟩ := g0
    have hk1 : (0 : Int) ≤ (i : Int) := Int.natCast_nonneg i
    have hk2 : (i : Int) < 6 := by have := HI.out; omega
    have hk3 : i < 6 := HI.out
    have hp := RelAt.ptr HI.out hr8
    rw [if_pos (by rfl)]
    go_simp
    exact hK.out _ _ hg ⟨nn, nn, nn, nn, fun _ => hp, nn, nn⟩ (fun _ _ h => h)
  case s5 =>
    intro a w' hoff hg hdep K hK
    obtain ⟨v4, e4, f4⟩ := hdep 4 _ 10 (by kernel_rfl) rfl rfl
    have g4 := f4.2.2.2.2.1 rfl
    obtain ⟨b4, rfl, hb4, p8, p9⟩ := g4
    rw [if_pos (by rfl)]
    obtain ⟨p0, p1, p2, p3, p4, p5⟩ := (X1.out.on hg).cells
    go_simp
    exact hK.out _ _ hg ⟨nn, nn, nn, nn, nn, fun _ => rfl, nn⟩ (fun _ _ h => h)
  case s6 =>
    intro a w' hoff hg hdep K hK
    rw [if_pos (by rfl)]
    go_simp
    have hb := below_alloc w' (.cells #[.string ⟨#[]⟩, .int .i64 0] 62)
    have hp : ZeroDe w1.heap.size (w'.alloc (.cells #[.string ⟨#[]⟩, .int .i64 0] 62)) (.pointer (some ⟨w'.heap.size, 0, none⟩)) := ⟨_, rfl, hg.size, alloc_new' _ _⟩
    exact hK.out _ _ (Below.step hg hb) ⟨nn, nn, nn, nn, nn, nn, fun _ => hp⟩ (fun _ _ h => ⟨fun e => RelAt.stay hb (h.1 e), h.2.1, h.2.2.1, h.2.2.2.1, fun e => DeclPtr.stay hb (h.2.2.2.2.1 e), h.2.2.2.2.2.1, fun e => ZeroDe.stay hb (h.2.2.2.2.2.2 e)⟩)
  case last =>
    intro a w' hoff hg hf
    obtain ⟨v0, e0, f0⟩ := hf 0 _ 6 (by decide) rfl rfl
    have g0 := f0.1 rfl
    obtain ⟨v1, e1, f1⟩ := hf 1 _ 7 (by decide) rfl rfl
    obtain rfl := (f1.2.1 rfl).symm
    obtain ⟨v2, e2, f2⟩ := hf 2 _ 8 (by decide) rfl rfl
    obtain rfl := (f2.2.2.1 rfl).symm
    obtain ⟨v3, e3, f3⟩ := hf 3 _ 9 (by decide) rfl rfl
    obtain rfl := (f3.2.2.2.1 rfl).symm
    obtain ⟨v4, e4, f4⟩ := hf 4 _ 10 (by decide) rfl rfl
    have g4 := f4.2.2.2.2.1 rfl
    obtain ⟨v5, e5, f5⟩ := hf 5 _ 11 (by decide) rfl rfl
    obtain rfl := (f5.2.2.2.2.2.1 rfl).symm
    obtain ⟨v6, e6, f6⟩ := hf 6 _ 3 (by decide) rfl rfl
    have g6 := f6.2.2.2.2.2.2 rfl
    obtain ⟨bd, rfl, hbd, hzd⟩ := g6
    have z0 := frozen_of_row w' bd 0 _ _ hzd
    have z1 := frozen_of_row w' bd 1 _ _ hzd
    obtain ⟨r0, r1⟩ := hzd.cells
    rw [if_pos (by rfl)]
    rw [hoff.sets [(6, v0), (7, .pointer (some ⟨w.heap.size, 1, none⟩)), (8, .int .i64 x.name), (9, .int .i64 i), (10, v4), (11, .agg #[.string (decl6 i).name, .int .i64 (decl6 i).arity]), (3, .pointer (some ⟨bd, 0, none⟩))] (by kernel_rfl) (by intro p hp; simp only [List.mem_cons, List.not_mem_nil, or_false] at hp; rcases hp with rfl | rfl | rfl | rfl | rfl | rfl | rfl <;> assumption)]
    clear hoff hf e0 f0 e1 f1 e2 f2 e3 f3 e4 f4 e5 f5 e6 f6
    simp only [List.foldl_cons, List.foldl_nil, List.setIfInBounds_toArray, List.set_cons_zero, List.set_cons_succ]
    have XD := Lib.hid (boxDe_set hzd (.string (decl6 i).name) (.int .i64 (decl6 i).arity))
    have BD := Lib.hid ((hg.setCell (p := ⟨bd, 0, none⟩) hbd (.string (decl6 i).name)).setCell (p := ⟨bd, 1, none⟩) hbd (.int .i64 (decl6 i).arity))
    go_simp
    clear g0 g4 z0 z1 r0 r1 hzd hg
    generalize (w'.setCell ⟨bd, 0, none⟩ (.string (decl6 i).name)).setCell ⟨bd, 1, none⟩ (.int .i64 (decl6 i).arity) = wd at *
    have X2 := Lib.hid (X1.out.on BD.out); have T2 := Lib.hid (T1.out.on BD.out); have D2 := XD
    have B2 := Lib.hid (Below.step B1.out BD.out)
    have HOK := Lib.hid (decl6_ok HI.out)
    obtain ⟨ar, har⟩ := Int.eq_ofNat_of_zero_le (show 0 ≤ (decl6 i).arity by have := HOK.out; omega)
    have har3 : ar ≤ 3 := by have := HOK.out; omega
    have HAR3 := Lib.hid har3
    rw [har] at D2
    have HAR := Lib.hid har
    obtain ⟨r0, r1⟩ := D2.out.cells
    have a1 := boxFa_new wd (.string ⟨#[]⟩) (.slice none 0 0)
    have z0 := frozen_of_row (wd.alloc (.cells #[.string ⟨#[]⟩, .slice none 0 0] 56)) wd.heap.size 0 _ _ a1
    have z1 := frozen_of_row (wd.alloc (.cells #[.string ⟨#[]⟩, .slice none 0 0] 56)) wd.heap.size 1 _ _ a1
    clear har
    go_wp2_with fail
    clear z0 z1 r0 r1 a1
    have a2 := boxFa_new wd (.string (decl6 i).name) (.slice none 0 0)
    have b2 := below_alloc wd (.cells #[.string (decl6 i).name, .slice none 0 0] 56)
    have s2 := World.size_alloc wd (.cells #[.string (decl6 i).name, .slice none 0 0] 56)
    generalize wd.alloc (.cells #[.string (decl6 i).name, .slice none 0 0] 56) = w3 at *
    obtain ⟨kq, hK⟩ : ∃ kq, wd.heap.size = kq := ⟨_, rfl⟩
    have HXK : Hid (w.heap.size + 1 < kq ∧ bd < kq) := by show _ ∧ _; rw [← hK]; exact ⟨T2.out.lt, D2.out.lt⟩
    have X3 := Lib.hid (X2.out.on b2); have T3 := Lib.hid (T2.out.on b2); have D3 := Lib.hid (D2.out.on b2); have B3 := Lib.hid (Below.step B2.out b2)
    rw [hK] at a2 s2 ⊢
    have O3 := Lib.hid a2; have S3 := Lib.hid s2
    clear a2 b2 s2 hK har3
    generalize hNM : (decl6 i).name = nm at *
    have HNM := Lib.hid hNM
    clear hNM
    go_loopw [5] (fun iv wr => ∃ (k : Nat) (lv : Value), k ≤ ar ∧ iv = .int .i64 (k : Int) ∧ MineK kdV wr (kq + 1) (factTo x k) lv ∧ BoxFa wr kq (.string nm) lv ∧ But kq (kq + 1) w3 wr) (fun iv _ => 3 - (intOf iv).toNat)
    case atStart => exact ⟨0, .slice none 0 0, Nat.zero_le _, rfl, MineK.nil _ _, O3.out, But.refl _ _ _⟩
    case round =>
      obtain ⟨k, lv, hka, rfl, hmine, hbox, hbut⟩ := hrel
      have HO := Lib.hid hmine; have OR := Lib.hid hbox; have HBUT := Lib.hid hbut
      have HXR : Hid (BoxRw wr w.heap.size x) := (hbut.block _ (by have := HXK.out; omega) (by have := HXK.out; omega)).trans X3.out
      have HDR : Hid (BoxDe wr bd (.string nm) (.int .i64 ar)) := (hbut.block _ (by have := HXK.out; omega) (by have := HXK.out; omega)).trans D3.out
      have HTR : Hid (BoxFa wr (w.heap.size + 1) (.string ⟨#[]⟩) (.slice none 0 0)) := (hbut.block _ (by have := HXK.out; omega) (by have := HXK.out; omega)).trans T3.out
      have HWS : Hid (kq + 1 ≤ wr.heap.size) := by show _ ≤ _; have := hbut.size; have := S3.out; omega
      have HBW : Hid (Below w.heap.size w wr) := Below.trans B3.out (hbut.below (by have := HXK.out; omega) (by have := HXK.out; omega))
      clear hmine hbox hbut
      obtain ⟨r0, r1⟩ := HDR.out.cells
      by_cases hl : k < ar
      · have hl1 : decide ((k : Int) < (ar : Int)) = true := by simp; omega
        have hk3 : k < 4 := by have := HAR3.out; omega
        have hk5 : (0 : Int) ≤ (k : Int) := by omega
        have hk6 : (k : Int) < 4 := by omega
        have HK5 := Lib.hid hk5; have HK6 := Lib.hid hk6
        have HKL : Hid (k < 3 ∧ k < ar) := ⟨by have := HAR3.out; omega, hl⟩
        have HQ : Hid (I64 (numOf x k)) := numOf_i64 HX.out k
        have pk : wr.cell? ⟨w.heap.size, 2 + k, none⟩ = some (.int .i64 (numOf x k)) := HXR.out.num k hk3
        have PK := Lib.hid pk
        have HLL : Hid ((factTo x k).length = k) := by show _ = _; rw [factTo, List.length_map, List.length_range]
        have HLK : Hid ((factTo x k).length ≤ 1000) := by show _ ≤ _; rw [HLL.out]; omega
        have HTK : Hid (factTo x (k + 1) = factTo x k ++ [factArg x k]) := factTo_succ x k
        have HFA : Hid (factArg x k = if k = 0 ∨ (k = 1 ∧ (nm = ⟨#[108, 105, 110, 107]⟩ ∨ pickZ (numOf x k) 2 = 0)) then .mk 3 0 (adrName (pickZ ((numOf x k).tdiv 2) 4).toNat) [] else .mk 1 (pickZ ((numOf x k).tdiv 2) 5) ⟨#[]⟩ []) := by
          show _ = _
          rw [factArg, HDO.out, HNM.out]
        clear hk3
        go_upto_region 6 with fail
        go_cut [39] from 15 to 39 (fun s wx => s = .bool (decide (k = 0 ∨ (k = 1 ∧ (nm = ⟨#[108, 105, 110, 107]⟩ ∨ pickZ (numOf x k) 2 = 0)))) ∧ wr = wx)
        case first =>
          by_cases c0 : k = 0
          · have HZ : Hid (decide (k = 0 ∨ (k = 1 ∧ (nm = ⟨#[108, 105, 110, 107]⟩ ∨ pickZ (numOf x k) 2 = 0))) = true) := decide_eq_true (.inl c0)
            have hq0 : ((k : Int) == 0) = true := by simp [c0]
            clear pk hl hl1 c0
            go_wp2_with fail
            go_meet
            exact ⟨by rw [HZ.out], rfl⟩
          have hq0 : ((k : Int) == 0) = false := by simp [c0]
          by_cases c1 : k = 1
          · have hq1 : ((k : Int) == 1) = true := by simp [c1]
            by_cases c2 : nm = ⟨#[108, 105, 110, 107]⟩
            · have HZ : Hid (decide (k = 0 ∨ (k = 1 ∧ (nm = ⟨#[108, 105, 110, 107]⟩ ∨ pickZ (numOf x k) 2 = 0))) = true) := decide_eq_true (.inr ⟨c1, .inl c2⟩)
              have hq2 : (nm.toList == [108, 105, 110, 107]) = true := by rw [beq_iff_eq]; exact link_iff.2 c2
              clear pk hl hl1 c0 c1 c2
              go_wp2_with fail
              go_meet
              exact ⟨by rw [HZ.out], rfl⟩
            · have hq2 : (nm.toList == [108, 105, 110, 107]) = false := by rw [beq_eq_false_iff_ne]; exact fun e => c2 (link_iff.1 e)
              have HC1 := Lib.hid c1; have HC2 := Lib.hid c2
              clear hl hl1 c0 c1 c2
              go_wp2_with fail
              refine (pick6_any (numOf x k) 2 _ HQ.out (by omega) (by omega)).mono ?_
              rintro e w' ⟨rfl, rfl⟩
              by_cases c3 : pickZ (numOf x k) 2 = 0
              · have HZ : Hid (decide (k = 0 ∨ (k = 1 ∧ (nm = ⟨#[108, 105, 110, 107]⟩ ∨ pickZ (numOf x k) 2 = 0))) = true) := decide_eq_true (.inr ⟨HC1.out, .inr c3⟩)
                have hq3 : (pickZ (numOf x k) 2 == 0) = true := by simp [c3]
                clear c3
                go_wp2_with fail
                go_meet
                exact ⟨by rw [HZ.out], rfl⟩
              · have HZ : Hid (decide (k = 0 ∨ (k = 1 ∧ (nm = ⟨#[108, 105, 110, 107]⟩ ∨ pickZ (numOf x k) 2 = 0))) = false) := decide_eq_false (fun h => by
                  rcases h with h | ⟨-, h | h⟩
                  · have := HC1.out; omega
                  · exact HC2.out h
                  · exact c3 h)
                have hq3 : (pickZ (numOf x k) 2 == 0) = false := by simp [c3]
                clear c3
                go_wp2_with fail
                go_meet
                exact ⟨by rw [HZ.out], rfl⟩
          · have hq1 : ((k : Int) == 1) = false := by simp; omega
            have HZ : Hid (decide (k = 0 ∨ (k = 1 ∧ (nm = ⟨#[108, 105, 110, 107]⟩ ∨ pickZ (numOf x k) 2 = 0))) = false) := decide_eq_false (by simp [c0, c1])
            clear pk hl hl1 c0 c1
            go_wp2_with fail
            go_meet
            exact ⟨by rw [HZ.out], rfl⟩
        case rest =>
          obtain ⟨rfl, rfl⟩ := hcut
          clear pk hl hl1 r0 r1 hk5 hk6
          obtain ⟨q, hq⟩ : ∃ q, numOf x k = q := ⟨_, rfl⟩
          have HQD : Hid (I64 ((numOf x k).tdiv 2)) := tdiv_i64 HQ.out 2 (by omega)
          rw [hq] at HQ PK HFA HQD ⊢
          clear hq
          have HW1 : Hid (wrap64 (q.tdiv 2) = q.tdiv 2) := by show _ = _; obtain ⟨a1, a2⟩ := HQD.out; unfold wrap64; omega
          have HW2 : Hid (IntKind.i64.wrap (q.tdiv 2) = q.tdiv 2) := by show _ = _; obtain ⟨a1, a2⟩ := HQD.out; rw [IntKind.wrap_i64]; omega
          by_cases hc : k = 0 ∨ (k = 1 ∧ (nm = ⟨#[108, 105, 110, 107]⟩ ∨ pickZ q 2 = 0))
          · rw [decide_eq_true hc]
            rw [if_pos hc] at HFA
            clear hc
            have hpb := pickZ_bd (q.tdiv 2) 4 (by omega)
            obtain ⟨r, hr⟩ := Int.eq_ofNat_of_zero_le hpb.1
            have HR := Lib.hid hr
            have HR4 : Hid (r < 4) := by show _ < _; omega
            rw [hr, Int.toNat_natCast] at HFA
            have HR5 : Hid ((0 : Int) ≤ (r : Int)) := by show _ ≤ _; omega
            have HR6 : Hid ((r : Int) < 4) := by show _ < _; omega
            clear hpb hr
            have HRD : Hid (∀ S' w', kdV.R S' w' (factArg x k) (at4v (.int .i64 3) (.int .i64 0) (.string (adrName r)) (.slice none 0 0))) := Lib.hid (fun _ _ => by rw [HFA.out]; exact flat_rep _ _ 3 0 (adrName r) (small64 (by omega)) (small64 (by omega)) (adrName_size r))
            go_wp2_with fail
            refine wp_region_factsP (by rfl) 68 (by rfl) (by kernel_rfl) 13 (fun q => q == 0 || q == 1 || q == 2 || q == 3 || q == 4 || q == 5 || q == 6 || q == 7 || q == 8 || q == 9 || q == 10 || q == 11 || q == 12) (by kernel_rfl) (fun ph wz iz vz => (iz = 0 → vz = .pointer (some ⟨kq, 1, none⟩)) ∧ (iz = 1 → vz = lv) ∧ (iz = 2 → ph = false → StrFour wz vz) ∧ (iz = 3 → vz = .int .i64 (k : Int)) ∧ (iz = 4 → vz = .pointer (some ⟨w.heap.size, 2, none⟩)) ∧ (iz = 5 → vz = .pointer (some ⟨w.heap.size, 2 + k, none⟩)) ∧ (iz = 6 → vz = .int .i64 q) ∧ (iz = 7 → vz = .int .i64 (q.tdiv 2)) ∧ (iz = 8 → vz = .int .i64 (r : Int)) ∧ (iz = 9 → ph = false → StrPtr r (adrName r) wz vz) ∧ (iz = 10 → vz = .string (adrName r)) ∧ (iz = 11 → vz = .agg #[.int .i64 3, .int .i64 0, .string (adrName r), .slice none 0 0]) ∧ (iz = 12 → ph = false → RowOf wr.heap.size (.cells #[.int .i64 3, .int .i64 0, .string (adrName r), .slice none 0 0] 46 (0, 0)) wz vz) ∧ (iz = 13 → ph = true → (∃ a cap, vz = .slice a (k + 1) cap ∧ MineK kdV wz (kq + 1) (factTo x k ++ [factArg x k]) vz)) ∧ (iz = 14 → vz = .pointer (some ⟨kq, 1, none⟩))) (fun ph w' => if ph = true then Aft wr (kq + 1) lv w' else Below wr.heap.size wr w') (Below.drew (Below.refl _ _)) ⟨?s0, ?s1, ?s2, ?s3, ?s4, ?s5, ?s6, ?s7, ?s8, ?s9, ?s10, ?s11, ?s12, ?s13, ?s14, trivial⟩ (by rfl) ?last
            case s0 =>
              intro a w' hoff hg hdep K hK
              replace hg : Below wr.heap.size wr w' := hg
              have h4 := off_at hoff 4 (v := .pointer (some ⟨kq, 0, none⟩)) (by kernel_rfl) rfl
              rw [if_pos (by rfl)]
              go_simp
              exact hK.out _ _ hg ⟨fun _ => rfl, nn, nn, nn, nn, nn, nn, nn, nn, nn, nn, nn, nn, nn, nn⟩ (fun _ _ h => h)
            case s1 =>
              intro a w' hoff hg hdep K hK
              replace hg : Below wr.heap.size wr w' := hg
              obtain ⟨v0, e0, f0⟩ := hdep 0 _ 40 (by kernel_rfl) rfl rfl
              obtain rfl := (f0.1 rfl).symm
              rw [if_pos (by rfl)]
              obtain ⟨o0, o1⟩ := (OR.out.on hg).cells; have pk := (hg.cell (p := ⟨w.heap.size, 2 + k, none⟩) HXR.out.lt).trans PK.out
              go_simp
              exact hK.out _ _ hg ⟨nn, fun _ => rfl, nn, nn, nn, nn, nn, nn, nn, nn, nn, nn, nn, nn, nn⟩ (fun _ _ h => h)
            case s2 =>
              intro a w' hoff hg hdep K hK
              replace hg : Below wr.heap.size wr w' := hg
              rw [if_pos (by rfl)]
              go_simp
              have hb := below_alloc w' (.cells #[.string ⟨#[97]⟩, .string ⟨#[98]⟩, .string ⟨#[99]⟩, .string ⟨#[100]⟩] 9)
              have hp : StrFour (w'.alloc (.cells #[.string ⟨#[97]⟩, .string ⟨#[98]⟩, .string ⟨#[99]⟩, .string ⟨#[100]⟩] 9)) (.slice (some ⟨w'.heap.size, 0, none⟩) 4 4) := ⟨_, rfl, alloc_new' _ _⟩
              exact hK.out _ _ (Below.step hg hb) ⟨nn, nn, fun _ _ => hp, nn, nn, nn, nn, nn, nn, nn, nn, nn, nn, nn, nn⟩ (fun _ _ h => ⟨h.1, h.2.1, fun e p => StrFour.stay hb (h.2.2.1 e p), h.2.2.2.1, h.2.2.2.2.1, h.2.2.2.2.2.1, h.2.2.2.2.2.2.1, h.2.2.2.2.2.2.2.1, h.2.2.2.2.2.2.2.2.1, fun e p => StrPtr.stay hb (h.2.2.2.2.2.2.2.2.2.1 e p), h.2.2.2.2.2.2.2.2.2.2.1, h.2.2.2.2.2.2.2.2.2.2.2.1, fun e p => RowOf.stay hb (h.2.2.2.2.2.2.2.2.2.2.2.2.1 e p), fun e p => absurd p (by decide), h.2.2.2.2.2.2.2.2.2.2.2.2.2.2⟩)
            case s3 =>
              intro a w' hoff hg hdep K hK
              replace hg : Below wr.heap.size wr w' := hg
              have h5 := off_at hoff 5 (v := .int .i64 (k : Int)) (by kernel_rfl) rfl
              rw [if_pos (by rfl)]
              go_simp
              exact hK.out _ _ hg ⟨nn, nn, nn, fun _ => rfl, nn, nn, nn, nn, nn, nn, nn, nn, nn, nn, nn⟩ (fun _ _ h => h)
            case s4 =>
              intro a w' hoff hg hdep K hK
              replace hg : Below wr.heap.size wr w' := hg
              have h1 := off_at hoff 1 (v := .pointer (some ⟨w.heap.size, 0, none⟩)) (by kernel_rfl) rfl
              rw [if_pos (by rfl)]
              go_simp
              exact hK.out _ _ hg ⟨nn, nn, nn, nn, fun _ => rfl, nn, nn, nn, nn, nn, nn, nn, nn, nn, nn⟩ (fun _ _ h => h)
            case s5 =>
              intro a w' hoff hg hdep K hK
              replace hg : Below wr.heap.size wr w' := hg
              obtain ⟨v3, e3, f3⟩ := hdep 3 _ 43 (by kernel_rfl) rfl rfl
              obtain rfl := (f3.2.2.2.1 rfl).symm
              obtain ⟨v4, e4, f4⟩ := hdep 4 _ 44 (by kernel_rfl) rfl rfl
              obtain rfl := (f4.2.2.2.2.1 rfl).symm
              rw [if_pos (by rfl)]
              have hk5 := HK5.out; have hk6 := HK6.out
              go_simp
              exact hK.out _ _ hg ⟨nn, nn, nn, nn, nn, fun _ => rfl, nn, nn, nn, nn, nn, nn, nn, nn, nn⟩ (fun _ _ h => h)
            case s6 =>
              intro a w' hoff hg hdep K hK
              replace hg : Below wr.heap.size wr w' := hg
              obtain ⟨v5, e5, f5⟩ := hdep 5 _ 45 (by kernel_rfl) rfl rfl
              obtain rfl := (f5.2.2.2.2.2.1 rfl).symm
              rw [if_pos (by rfl)]
              obtain ⟨o0, o1⟩ := (OR.out.on hg).cells; have pk := (hg.cell (p := ⟨w.heap.size, 2 + k, none⟩) HXR.out.lt).trans PK.out
              go_simp
              exact hK.out _ _ hg ⟨nn, nn, nn, nn, nn, nn, fun _ => rfl, nn, nn, nn, nn, nn, nn, nn, nn⟩ (fun _ _ h => h)
            case s7 =>
              intro a w' hoff hg hdep K hK
              replace hg : Below wr.heap.size wr w' := hg
              obtain ⟨v6, e6, f6⟩ := hdep 6 _ 46 (by kernel_rfl) rfl rfl
              obtain rfl := (f6.2.2.2.2.2.2.1 rfl).symm
              rw [if_pos (by rfl)]
              have hw1 := HW1.out; have hw2 := HW2.out
              go_simp
              exact hK.out _ _ hg ⟨nn, nn, nn, nn, nn, nn, nn, fun _ => rfl, nn, nn, nn, nn, nn, nn, nn⟩ (fun _ _ h => h)
            case s8 =>
              intro a w' hoff hg hdep K hK
              replace hg : Below wr.heap.size wr w' := hg
              obtain ⟨v7, e7, f7⟩ := hdep 7 _ 47 (by kernel_rfl) rfl rfl
              obtain rfl := (f7.2.2.2.2.2.2.2.1 rfl).symm
              rw [if_pos (by rfl)]
              go_simp
              refine (pick6_any (q.tdiv 2) 4 w' HQD.out (by omega) (by omega)).mono ?_
              rintro e w2' ⟨rfl, rfl⟩
              rw [HR.out]
              have hb := Below.refl w'.heap.size w'
              exact hK.out _ _ (Below.step hg hb) ⟨nn, nn, nn, nn, nn, nn, nn, nn, fun _ => rfl, nn, nn, nn, nn, nn, nn⟩ (fun _ _ h => ⟨h.1, h.2.1, fun e p => StrFour.stay hb (h.2.2.1 e p), h.2.2.2.1, h.2.2.2.2.1, h.2.2.2.2.2.1, h.2.2.2.2.2.2.1, h.2.2.2.2.2.2.2.1, h.2.2.2.2.2.2.2.2.1, fun e p => StrPtr.stay hb (h.2.2.2.2.2.2.2.2.2.1 e p), h.2.2.2.2.2.2.2.2.2.2.1, h.2.2.2.2.2.2.2.2.2.2.2.1, fun e p => RowOf.stay hb (h.2.2.2.2.2.2.2.2.2.2.2.2.1 e p), fun e p => absurd p (by decide), h.2.2.2.2.2.2.2.2.2.2.2.2.2.2⟩)
            case s9 =>
              intro a w' hoff hg hdep K hK
              replace hg : Below wr.heap.size wr w' := hg
              obtain ⟨v2, e2, f2⟩ := hdep 2 _ 42 (by kernel_rfl) rfl rfl
              have g2 := f2.2.2.1 rfl rfl
              obtain ⟨v8, e8, f8⟩ := hdep 8 _ 48 (by kernel_rfl) rfl rfl
              obtain rfl := (f8.2.2.2.2.2.2.2.2.1 rfl).symm
              obtain ⟨b42, rfl, k42⟩ := g2
              have hp := str_ptr4 HR4.out k42
              rw [if_pos (by rfl)]
              have hr5 := HR5.out; have hr6 := HR6.out
              go_simp
              exact hK.out _ _ hg ⟨nn, nn, nn, nn, nn, nn, nn, nn, nn, fun _ _ => hp, nn, nn, nn, nn, nn⟩ (fun _ _ h => h)
            case s10 =>
              intro a w' hoff hg hdep K hK
              replace hg : Below wr.heap.size wr w' := hg
              obtain ⟨v9, e9, f9⟩ := hdep 9 _ 49 (by kernel_rfl) rfl rfl
              have g9 := f9.2.2.2.2.2.2.2.2.2.1 rfl rfl
              obtain ⟨b49, rfl, l49, t0⟩ := g9
              rw [if_pos (by rfl)]
              obtain ⟨o0, o1⟩ := (OR.out.on hg).cells; have pk := (hg.cell (p := ⟨w.heap.size, 2 + k, none⟩) HXR.out.lt).trans PK.out
              go_simp
              exact hK.out _ _ hg ⟨nn, nn, nn, nn, nn, nn, nn, nn, nn, nn, fun _ => rfl, nn, nn, nn, nn⟩ (fun _ _ h => h)
            case s11 =>
              intro a w' hoff hg hdep K hK
              replace hg : Below wr.heap.size wr w' := hg
              obtain ⟨v10, e10, f10⟩ := hdep 10 _ 50 (by kernel_rfl) rfl rfl
              obtain rfl := (f10.2.2.2.2.2.2.2.2.2.2.1 rfl).symm
              rw [if_pos (by rfl)]
              go_simp
              exact hK.out _ _ hg ⟨nn, nn, nn, nn, nn, nn, nn, nn, nn, nn, nn, fun _ => rfl, nn, nn, nn⟩ (fun _ _ h => h)
            case s12 =>
              intro a w' hoff hg hdep K hK
              replace hg : Below wr.heap.size wr w' := hg
              obtain ⟨v11, e11, f11⟩ := hdep 11 _ 51 (by kernel_rfl) rfl rfl
              obtain rfl := (f11.2.2.2.2.2.2.2.2.2.2.2.1 rfl).symm
              rw [if_pos (by rfl)]
              go_simp
              have hb := below_alloc w' (.cells #[.int .i64 3, .int .i64 0, .string (adrName r), .slice none 0 0] 46)
              have hp := RowOf.new (cs := #[.int .i64 3, .int .i64 0, .string (adrName r), .slice none 0 0]) (t := 46) hg.size
              exact hK.out _ _ (Below.step hg hb) ⟨nn, nn, nn, nn, nn, nn, nn, nn, nn, nn, nn, nn, fun _ _ => hp, nn, nn⟩ (fun _ _ h => ⟨h.1, h.2.1, fun e p => StrFour.stay hb (h.2.2.1 e p), h.2.2.2.1, h.2.2.2.2.1, h.2.2.2.2.2.1, h.2.2.2.2.2.2.1, h.2.2.2.2.2.2.2.1, h.2.2.2.2.2.2.2.2.1, fun e p => StrPtr.stay hb (h.2.2.2.2.2.2.2.2.2.1 e p), h.2.2.2.2.2.2.2.2.2.2.1, h.2.2.2.2.2.2.2.2.2.2.2.1, fun e p => RowOf.stay hb (h.2.2.2.2.2.2.2.2.2.2.2.2.1 e p), fun e p => absurd p (by decide), h.2.2.2.2.2.2.2.2.2.2.2.2.2.2⟩)
            case s13 =>
              intro a w' hoff hg hdep K hK
              replace hg : Below wr.heap.size wr w' := hg
              obtain ⟨v1, e1, f1⟩ := hdep 1 _ 41 (by kernel_rfl) rfl rfl
              obtain rfl := (f1.2.1 rfl).symm
              obtain ⟨v12, e12, f12⟩ := hdep 12 _ 52 (by kernel_rfl) rfl rfl
              have g12 := f12.2.2.2.2.2.2.2.2.2.2.2.2.1 rfl rfl
              obtain ⟨b, rfl, hbk, hbb⟩ := g12
              obtain ⟨va, vcap, w6, hrun, hm6, hgr⟩ := own_append (K := kdV) (y := factArg x k) (c := at4v (.int .i64 3) (.int .i64 0) (.string (adrName r)) (.slice none 0 0)) (HO.out.stands hg) (Nat.le_trans HWS.out hg.size) HLK.out hbk rfl (fun j hj => match j, hj with | 0, _ => rfl | 1, _ => rfl | 2, _ => rfl | 3, _ => rfl) (HRD.out _ _) 44
              refine step_append_by rfl (.tmp 41) (.tmp 52) 44 rfl (by simp [Act.eval, e1]) (by simp [Act.eval, e12]) hrun ?_
              have hlk := HLL.out
              rw [hlk] at hm6 ⊢
              have hp : ∃ a cap, (.slice va (k + 1) vcap : Value) = .slice a (k + 1) cap ∧ MineK kdV w6 (kq + 1) (factTo x k ++ [factArg x k]) (.slice va (k + 1) vcap) := ⟨_, _, rfl, hm6⟩
              have hG2 := Aft.of HO.out HWS.out hg hgr
              exact hK.out _ _ hG2 ⟨nn, nn, nn, nn, nn, nn, nn, nn, nn, nn, nn, nn, nn, fun _ _ => hp, nn⟩ (fun _ _ hne h => ⟨h.1, h.2.1, fun _ p => absurd p (by decide), h.2.2.2.1, h.2.2.2.2.1, h.2.2.2.2.2.1, h.2.2.2.2.2.2.1, h.2.2.2.2.2.2.2.1, h.2.2.2.2.2.2.2.2.1, fun _ p => absurd p (by decide), h.2.2.2.2.2.2.2.2.2.2.1, h.2.2.2.2.2.2.2.2.2.2.2.1, fun _ p => absurd p (by decide), fun e _ => absurd e hne, h.2.2.2.2.2.2.2.2.2.2.2.2.2.2⟩)
            case s14 =>
              intro ph a w' hoff hg hdep K hK
              have h4 := off_at hoff 4 (v := .pointer (some ⟨kq, 0, none⟩)) (by kernel_rfl) rfl
              rw [if_pos (by rfl)]
              go_simp
              exact hK.out _ _ hg ⟨nn, nn, nn, nn, nn, nn, nn, nn, nn, nn, nn, nn, nn, nn, fun _ => rfl⟩ (fun _ _ h => h)
            case last =>
              intro a w' hoff hg hf
              replace hg : Aft wr (kq + 1) lv w' := hg
              obtain ⟨v0, e0, f0⟩ := hf 0 _ 40 (by decide) rfl rfl
              obtain rfl := (f0.1 rfl).symm
              obtain ⟨v1, e1, f1⟩ := hf 1 _ 41 (by decide) rfl rfl
              obtain rfl := (f1.2.1 rfl).symm
              obtain ⟨v2, e2, f2⟩ := hf 2 _ 42 (by decide) rfl rfl
              obtain ⟨v3, e3, f3⟩ := hf 3 _ 43 (by decide) rfl rfl
              obtain rfl := (f3.2.2.2.1 rfl).symm
              obtain ⟨v4, e4, f4⟩ := hf 4 _ 44 (by decide) rfl rfl
              obtain rfl := (f4.2.2.2.2.1 rfl).symm
              obtain ⟨v5, e5, f5⟩ := hf 5 _ 45 (by decide) rfl rfl
              obtain rfl := (f5.2.2.2.2.2.1 rfl).symm
              obtain ⟨v6, e6, f6⟩ := hf 6 _ 46 (by decide) rfl rfl
              obtain rfl := (f6.2.2.2.2.2.2.1 rfl).symm
              obtain ⟨v7, e7, f7⟩ := hf 7 _ 47 (by decide) rfl rfl
              obtain rfl := (f7.2.2.2.2.2.2.2.1 rfl).symm
              obtain ⟨v8, e8, f8⟩ := hf 8 _ 48 (by decide) rfl rfl
              obtain rfl := (f8.2.2.2.2.2.2.2.2.1 rfl).symm
              obtain ⟨v9, e9, f9⟩ := hf 9 _ 49 (by decide) rfl rfl
              obtain ⟨v10, e10, f10⟩ := hf 10 _ 50 (by decide) rfl rfl
              obtain rfl := (f10.2.2.2.2.2.2.2.2.2.2.1 rfl).symm
              obtain ⟨v11, e11, f11⟩ := hf 11 _ 51 (by decide) rfl rfl
              obtain rfl := (f11.2.2.2.2.2.2.2.2.2.2.2.1 rfl).symm
              obtain ⟨v12, e12, f12⟩ := hf 12 _ 52 (by decide) rfl rfl
              obtain ⟨v13, e13, f13⟩ := hf 13 _ 53 (by decide) rfl rfl
              have g13 := f13.2.2.2.2.2.2.2.2.2.2.2.2.2.1 rfl rfl
              obtain ⟨v14, e14, f14⟩ := hf 14 _ 54 (by decide) rfl rfl
              obtain rfl := (f14.2.2.2.2.2.2.2.2.2.2.2.2.2.2 rfl).symm
              obtain ⟨va, vcap, rfl, hm6⟩ := g13
              have OR6 : Hid (BoxFa w' kq (.string nm) lv) := (hg.below.block _ (Nat.lt_succ_self _)).trans OR.out
              obtain ⟨o0, o1⟩ := OR6.out.cells
              have z1 := frozen_of_row w' kq 1 _ _ OR6.out
              rw [if_pos (by rfl)]
              rw [hoff.sets [(40, .pointer (some ⟨kq, 1, none⟩)), (41, lv), (42, v2), (43, .int .i64 (k : Int)), (44, .pointer (some ⟨w.heap.size, 2, none⟩)), (45, .pointer (some ⟨w.heap.size, 2 + k, none⟩)), (46, .int .i64 q), (47, .int .i64 (q.tdiv 2)), (48, .int .i64 (r : Int)), (49, v9), (50, .string (adrName r)), (51, .agg #[.int .i64 3, .int .i64 0, .string (adrName r), .slice none 0 0]), (52, v12), (53, .slice va (k + 1) vcap), (54, .pointer (some ⟨kq, 1, none⟩))] (by kernel_rfl) (by intro p hp; simp only [List.mem_cons, List.not_mem_nil, or_false] at hp; rcases hp with rfl | rfl | rfl | rfl | rfl | rfl | rfl | rfl | rfl | rfl | rfl | rfl | rfl | rfl | rfl <;> assumption)]
              clear hoff hf e0 f0 e1 f1 e2 f2 e3 f3 e4 f4 e5 f5 e6 f6 e7 f7 e8 f8 e9 f9 e10 f10 e11 f11 e12 f12 e13 f13 e14 f14
              simp only [List.foldl_cons, List.foldl_nil, List.setIfInBounds_toArray, List.set_cons_zero, List.set_cons_succ]
              go_simp
              have HM6 := Lib.hid (hm6.far (p := ⟨kq, 1, none⟩) (by simp) (.slice va (k + 1) vcap))
              have OB6 : Hid (BoxFa (w'.setCell ⟨kq, 1, none⟩ (.slice va (k + 1) vcap)) kq (.string nm) (.slice va (k + 1) vcap)) := heap_setCell_same _ _ _ _ _ _ OR6.out
              have HB6 := Lib.hid ((HBUT.out.step (Nat.le_refl _) hg.below).set 1 (.slice va (k + 1) vcap))
              clear hg hm6 o0 o1 z1
              go_wp2_with fail
              go_roundw
              case rel => exact ⟨k + 1, .slice va (k + 1) vcap, HKL.out.2, (by have := HKL.out.1; rw [show wrap64 ((k : Int) + 1) = ((k + 1 : Nat) : Int) by unfold wrap64; omega]), by rw [HTK.out]; exact HM6.out, OB6.out, HB6.out⟩
              case measure => exact measure_up HKL.out.1 (by decide)
          · rw [decide_eq_false hc]
            rw [if_neg hc] at HFA
            clear hc
            have hpb := pickZ_bd (q.tdiv 2) 5 (by omega)
            have HN : Hid (I64 (pickZ (q.tdiv 2) 5)) := ⟨by omega, by omega⟩
            clear hpb
            have HRD : Hid (∀ S' w', kdV.R S' w' (factArg x k) (at4v (.int .i64 1) (.int .i64 (pickZ (q.tdiv 2) 5)) (.string ⟨#[]⟩) (.slice none 0 0))) := Lib.hid (fun _ _ => by rw [HFA.out]; exact flat_rep _ _ 1 _ ⟨#[]⟩ (small64 (by omega)) HN.out (by decide))
            go_wp2_with fail
            refine wp_region_factsP (by rfl) 68 (by rfl) (by kernel_rfl) 10 (fun q => q == 0 || q == 1 || q == 2 || q == 3 || q == 4 || q == 5 || q == 6 || q == 7 || q == 8 || q == 9) (by kernel_rfl) (fun ph wz iz vz => (iz = 0 → vz = .pointer (some ⟨kq, 1, none⟩)) ∧ (iz = 1 → vz = lv) ∧ (iz = 2 → vz = .int .i64 (k : Int)) ∧ (iz = 3 → vz = .pointer (some ⟨w.heap.size, 2, none⟩)) ∧ (iz = 4 → vz = .pointer (some ⟨w.heap.size, 2 + k, none⟩)) ∧ (iz = 5 → vz = .int .i64 q) ∧ (iz = 6 → vz = .int .i64 (q.tdiv 2)) ∧ (iz = 7 → vz = .int .i64 (pickZ (q.tdiv 2) 5)) ∧ (iz = 8 → vz = .agg #[.int .i64 1, .int .i64 (pickZ (q.tdiv 2) 5), .string ⟨#[]⟩, .slice none 0 0]) ∧ (iz = 9 → ph = false → RowOf wr.heap.size (.cells #[.int .i64 1, .int .i64 (pickZ (q.tdiv 2) 5), .string ⟨#[]⟩, .slice none 0 0] 46 (0, 0)) wz vz) ∧ (iz = 10 → ph = true → (∃ a cap, vz = .slice a (k + 1) cap ∧ MineK kdV wz (kq + 1) (factTo x k ++ [factArg x k]) vz)) ∧ (iz = 11 → vz = .pointer (some ⟨kq, 1, none⟩))) (fun ph w' => if ph = true then Aft wr (kq + 1) lv w' else Below wr.heap.size wr w') (Below.drew (Below.refl _ _)) ⟨?s0, ?s1, ?s2, ?s3, ?s4, ?s5, ?s6, ?s7, ?s8, ?s9, ?s10, ?s11, trivial⟩ (by rfl) ?last
            case s0 =>
              intro a w' hoff hg hdep K hK
              replace hg : Below wr.heap.size wr w' := hg
              have h4 := off_at hoff 4 (v := .pointer (some ⟨kq, 0, none⟩)) (by kernel_rfl) rfl
              rw [if_pos (by rfl)]
              go_simp
              exact hK.out _ _ hg ⟨fun _ => rfl, nn, nn, nn, nn, nn, nn, nn, nn, nn, nn, nn⟩ (fun _ _ h => h)
            case s1 =>
              intro a w' hoff hg hdep K hK
              replace hg : Below wr.heap.size wr w' := hg
              obtain ⟨v0, e0, f0⟩ := hdep 0 _ 55 (by kernel_rfl) rfl rfl
              obtain rfl := (f0.1 rfl).symm
              rw [if_pos (by rfl)]
              obtain ⟨o0, o1⟩ := (OR.out.on hg).cells; have pk := (hg.cell (p := ⟨w.heap.size, 2 + k, none⟩) HXR.out.lt).trans PK.out
              go_simp
              exact hK.out _ _ hg ⟨nn, fun _ => rfl, nn, nn, nn, nn, nn, nn, nn, nn, nn, nn⟩ (fun _ _ h => h)
            case s2 =>
              intro a w' hoff hg hdep K hK
              replace hg : Below wr.heap.size wr w' := hg
              have h5 := off_at hoff 5 (v := .int .i64 (k : Int)) (by kernel_rfl) rfl
              rw [if_pos (by rfl)]
              go_simp
              exact hK.out _ _ hg ⟨nn, nn, fun _ => rfl, nn, nn, nn, nn, nn, nn, nn, nn, nn⟩ (fun _ _ h => h)
            case s3 =>
              intro a w' hoff hg hdep K hK
              replace hg : Below wr.heap.size wr w' := hg
              have h1 := off_at hoff 1 (v := .pointer (some ⟨w.heap.size, 0, none⟩)) (by kernel_rfl) rfl
              rw [if_pos (by rfl)]
              go_simp
              exact hK.out _ _ hg ⟨nn, nn, nn, fun _ => rfl, nn, nn, nn, nn, nn, nn, nn, nn⟩ (fun _ _ h => h)
            case s4 =>
              intro a w' hoff hg hdep K hK
              replace hg : Below wr.heap.size wr w' := hg
              obtain ⟨v2, e2, f2⟩ := hdep 2 _ 57 (by kernel_rfl) rfl rfl
              obtain rfl := (f2.2.2.1 rfl).symm
              obtain ⟨v3, e3, f3⟩ := hdep 3 _ 58 (by kernel_rfl) rfl rfl
              obtain rfl := (f3.2.2.2.1 rfl).symm
              rw [if_pos (by rfl)]
              have hk5 := HK5.out; have hk6 := HK6.out
              go_simp
              exact hK.out _ _ hg ⟨nn, nn, nn, nn, fun _ => rfl, nn, nn, nn, nn, nn, nn, nn⟩ (fun _ _ h => h)
            case s5 =>
              intro a w' hoff hg hdep K hK
              replace hg : Below wr.heap.size wr w' := hg
              obtain ⟨v4, e4, f4⟩ := hdep 4 _ 59 (by kernel_rfl) rfl rfl
              obtain rfl := (f4.2.2.2.2.1 rfl).symm
              rw [if_pos (by rfl)]
              obtain ⟨o0, o1⟩ := (OR.out.on hg).cells; have pk := (hg.cell (p := ⟨w.heap.size, 2 + k, none⟩) HXR.out.lt).trans PK.out
              go_simp
              exact hK.out _ _ hg ⟨nn, nn, nn, nn, nn, fun _ => rfl, nn, nn, nn, nn, nn, nn⟩ (fun _ _ h => h)
            case s6 =>
              intro a w' hoff hg hdep K hK
              replace hg : Below wr.heap.size wr w' := hg
              obtain ⟨v5, e5, f5⟩ := hdep 5 _ 60 (by kernel_rfl) rfl rfl
              obtain rfl := (f5.2.2.2.2.2.1 rfl).symm
              rw [if_pos (by rfl)]
              have hw1 := HW1.out; have hw2 := HW2.out
              go_simp
              exact hK.out _ _ hg ⟨nn, nn, nn, nn, nn, nn, fun _ => rfl, nn, nn, nn, nn, nn⟩ (fun _ _ h => h)
            case s7 =>
              intro a w' hoff hg hdep K hK
              replace hg : Below wr.heap.size wr w' := hg
              obtain ⟨v6, e6, f6⟩ := hdep 6 _ 61 (by kernel_rfl) rfl rfl
              obtain rfl := (f6.2.2.2.2.2.2.1 rfl).symm
              rw [if_pos (by rfl)]
              go_simp
              refine (pick6_any (q.tdiv 2) 5 w' HQD.out (by omega) (by omega)).mono ?_
              rintro e w2' ⟨rfl, rfl⟩
              have hb := Below.refl w'.heap.size w'
              exact hK.out _ _ (Below.step hg hb) ⟨nn, nn, nn, nn, nn, nn, nn, fun _ => rfl, nn, nn, nn, nn⟩ (fun _ _ h => ⟨h.1, h.2.1, h.2.2.1, h.2.2.2.1, h.2.2.2.2.1, h.2.2.2.2.2.1, h.2.2.2.2.2.2.1, h.2.2.2.2.2.2.2.1, h.2.2.2.2.2.2.2.2.1, fun e p => RowOf.stay hb (h.2.2.2.2.2.2.2.2.2.1 e p), fun e p => absurd p (by decide), h.2.2.2.2.2.2.2.2.2.2.2⟩)
            case s8 =>
              intro a w' hoff hg hdep K hK
              replace hg : Below wr.heap.size wr w' := hg
              obtain ⟨v7, e7, f7⟩ := hdep 7 _ 62 (by kernel_rfl) rfl rfl
              obtain rfl := (f7.2.2.2.2.2.2.2.1 rfl).symm
              rw [if_pos (by rfl)]
              go_simp
              exact hK.out _ _ hg ⟨nn, nn, nn, nn, nn, nn, nn, nn, fun _ => rfl, nn, nn, nn⟩ (fun _ _ h => h)
            case s9 =>
              intro a w' hoff hg hdep K hK
              replace hg : Below wr.heap.size wr w' := hg
              obtain ⟨v8, e8, f8⟩ := hdep 8 _ 63 (by kernel_rfl) rfl rfl
              obtain rfl := (f8.2.2.2.2.2.2.2.2.1 rfl).symm
              rw [if_pos (by rfl)]
              go_simp
              have hb := below_alloc w' (.cells #[.int .i64 1, .int .i64 (pickZ (q.tdiv 2) 5), .string ⟨#[]⟩, .slice none 0 0] 46)
              have hp := RowOf.new (cs := #[.int .i64 1, .int .i64 (pickZ (q.tdiv 2) 5), .string ⟨#[]⟩, .slice none 0 0]) (t := 46) hg.size
              exact hK.out _ _ (Below.step hg hb) ⟨nn, nn, nn, nn, nn, nn, nn, nn, nn, fun _ _ => hp, nn, nn⟩ (fun _ _ h => ⟨h.1, h.2.1, h.2.2.1, h.2.2.2.1, h.2.2.2.2.1, h.2.2.2.2.2.1, h.2.2.2.2.2.2.1, h.2.2.2.2.2.2.2.1, h.2.2.2.2.2.2.2.2.1, fun e p => RowOf.stay hb (h.2.2.2.2.2.2.2.2.2.1 e p), fun e p => absurd p (by decide), h.2.2.2.2.2.2.2.2.2.2.2⟩)
            case s10 =>
              intro a w' hoff hg hdep K hK
              replace hg : Below wr.heap.size wr w' := hg
              obtain ⟨v1, e1, f1⟩ := hdep 1 _ 56 (by kernel_rfl) rfl rfl
              obtain rfl := (f1.2.1 rfl).symm
              obtain ⟨v9, e9, f9⟩ := hdep 9 _ 64 (by kernel_rfl) rfl rfl
              have g9 := f9.2.2.2.2.2.2.2.2.2.1 rfl rfl
              obtain ⟨b, rfl, hbk, hbb⟩ := g9
              obtain ⟨va, vcap, w6, hrun, hm6, hgr⟩ := own_append (K := kdV) (y := factArg x k) (c := at4v (.int .i64 1) (.int .i64 (pickZ (q.tdiv 2) 5)) (.string ⟨#[]⟩) (.slice none 0 0)) (HO.out.stands hg) (Nat.le_trans HWS.out hg.size) HLK.out hbk rfl (fun j hj => match j, hj with | 0, _ => rfl | 1, _ => rfl | 2, _ => rfl | 3, _ => rfl) (HRD.out _ _) 44
              refine step_append_by rfl (.tmp 56) (.tmp 64) 44 rfl (by simp [Act.eval, e1]) (by simp [Act.eval, e9]) hrun ?_
              have hlk := HLL.out
              rw [hlk] at hm6 ⊢
              have hp : ∃ a cap, (.slice va (k + 1) vcap : Value) = .slice a (k + 1) cap ∧ MineK kdV w6 (kq + 1) (factTo x k ++ [factArg x k]) (.slice va (k + 1) vcap) := ⟨_, _, rfl, hm6⟩
              have hG2 := Aft.of HO.out HWS.out hg hgr
              exact hK.out _ _ hG2 ⟨nn, nn, nn, nn, nn, nn, nn, nn, nn, nn, fun _ _ => hp, nn⟩ (fun _ _ hne h => ⟨h.1, h.2.1, h.2.2.1, h.2.2.2.1, h.2.2.2.2.1, h.2.2.2.2.2.1, h.2.2.2.2.2.2.1, h.2.2.2.2.2.2.2.1, h.2.2.2.2.2.2.2.2.1, fun _ p => absurd p (by decide), fun e _ => absurd e hne, h.2.2.2.2.2.2.2.2.2.2.2⟩)
            case s11 =>
              intro ph a w' hoff hg hdep K hK
              have h4 := off_at hoff 4 (v := .pointer (some ⟨kq, 0, none⟩)) (by kernel_rfl) rfl
              rw [if_pos (by rfl)]
              go_simp
              exact hK.out _ _ hg ⟨nn, nn, nn, nn, nn, nn, nn, nn, nn, nn, nn, fun _ => rfl⟩ (fun _ _ h => h)
            case last =>
              intro a w' hoff hg hf
              replace hg : Aft wr (kq + 1) lv w' := hg
              obtain ⟨v0, e0, f0⟩ := hf 0 _ 55 (by decide) rfl rfl
              obtain rfl := (f0.1 rfl).symm
              obtain ⟨v1, e1, f1⟩ := hf 1 _ 56 (by decide) rfl rfl
              obtain rfl := (f1.2.1 rfl).symm
              obtain ⟨v2, e2, f2⟩ := hf 2 _ 57 (by decide) rfl rfl
              obtain rfl := (f2.2.2.1 rfl).symm
              obtain ⟨v3, e3, f3⟩ := hf 3 _ 58 (by decide) rfl rfl
              obtain rfl := (f3.2.2.2.1 rfl).symm
              obtain ⟨v4, e4, f4⟩ := hf 4 _ 59 (by decide) rfl rfl
              obtain rfl := (f4.2.2.2.2.1 rfl).symm
              obtain ⟨v5, e5, f5⟩ := hf 5 _ 60 (by decide) rfl rfl
              obtain rfl := (f5.2.2.2.2.2.1 rfl).symm
              obtain ⟨v6, e6, f6⟩ := hf 6 _ 61 (by decide) rfl rfl
              obtain rfl := (f6.2.2.2.2.2.2.1 rfl).symm
              obtain ⟨v7, e7, f7⟩ := hf 7 _ 62 (by decide) rfl rfl
              obtain rfl := (f7.2.2.2.2.2.2.2.1 rfl).symm
              obtain ⟨v8, e8, f8⟩ := hf 8 _ 63 (by decide) rfl rfl
              obtain rfl := (f8.2.2.2.2.2.2.2.2.1 rfl).symm
              obtain ⟨v9, e9, f9⟩ := hf 9 _ 64 (by decide) rfl rfl
              obtain ⟨v10, e10, f10⟩ := hf 10 _ 65 (by decide) rfl rfl
              have g10 := f10.2.2.2.2.2.2.2.2.2.2.1 rfl rfl
              obtain ⟨v11, e11, f11⟩ := hf 11 _ 66 (by decide) rfl rfl
              obtain rfl := (f11.2.2.2.2.2.2.2.2.2.2.2 rfl).symm
              obtain ⟨va, vcap, rfl, hm6⟩ := g10
              have OR6 : Hid (BoxFa w' kq (.string nm) lv) := (hg.below.block _ (Nat.lt_succ_self _)).trans OR.out
              obtain ⟨o0, o1⟩ := OR6.out.cells
              have z1 := frozen_of_row w' kq 1 _ _ OR6.out
              rw [if_pos (by rfl)]
              rw [hoff.sets [(55, .pointer (some ⟨kq, 1, none⟩)), (56, lv), (57, .int .i64 (k : Int)), (58, .pointer (some ⟨w.heap.size, 2, none⟩)), (59, .pointer (some ⟨w.heap.size, 2 + k, none⟩)), (60, .int .i64 q), (61, .int .i64 (q.tdiv 2)), (62, .int .i64 (pickZ (q.tdiv 2) 5)), (63, .agg #[.int .i64 1, .int .i64 (pickZ (q.tdiv 2) 5), .string ⟨#[]⟩, .slice none 0 0]), (64, v9), (65, .slice va (k + 1) vcap), (66, .pointer (some ⟨kq, 1, none⟩))] (by kernel_rfl) (by intro p hp; simp only [List.mem_cons, List.not_mem_nil, or_false] at hp; rcases hp with rfl | rfl | rfl | rfl | rfl | rfl | rfl | rfl | rfl | rfl | rfl | rfl <;> assumption)]
              clear hoff hf e0 f0 e1 f1 e2 f2 e3 f3 e4 f4 e5 f5 e6 f6 e7 f7 e8 f8 e9 f9 e10 f10 e11 f11
              simp only [List.foldl_cons, List.foldl_nil, List.setIfInBounds_toArray, List.set_cons_zero, List.set_cons_succ]
              go_simp
              have HM6 := Lib.hid (hm6.far (p := ⟨kq, 1, none⟩) (by simp) (.slice va (k + 1) vcap))
              have OB6 : Hid (BoxFa (w'.setCell ⟨kq, 1, none⟩ (.slice va (k + 1) vcap)) kq (.string nm) (.slice va (k + 1) vcap)) := heap_setCell_same _ _ _ _ _ _ OR6.out
              have HB6 := Lib.hid ((HBUT.out.step (Nat.le_refl _) hg.below).set 1 (.slice va (k + 1) vcap))
              clear hg hm6 o0 o1 z1
              go_wp2_with fail
              go_roundw
              case rel => exact ⟨k + 1, .slice va (k + 1) vcap, HKL.out.2, (by have := HKL.out.1; rw [show wrap64 ((k : Int) + 1) = ((k + 1 : Nat) : Int) by unfold wrap64; omega]), by rw [HTK.out]; exact HM6.out, OB6.out, HB6.out⟩
              case measure => exact measure_up HKL.out.1 (by decide)
      · obtain rfl : k = ar := by omega
        have hl1 : decide ((k : Int) < (k : Int)) = false := by simp
        obtain ⟨la, lc, rfl⟩ := OwnK.form HO.out
        have HLL : Hid ((factTo x k).length = k) := by show _ = _; rw [factTo, List.length_map, List.length_range]
        obtain ⟨o0, o1⟩ := OR.out.cells
        have z0 := frozen_of_row wr (w.heap.size + 1) 0 _ _ HTR.out; have z1 := frozen_of_row wr (w.heap.size + 1) 1 _ _ HTR.out
        obtain ⟨t0, t1⟩ := HTR.out.cells
        have T9 := Lib.hid (boxFa_set HTR.out (.string nm) (.slice la (factTo x k).length lc))
        have B9 := Lib.hid ((HBW.out.setCell (p := ⟨w.heap.size + 1, 0, none⟩) (by simp) (.string nm)).setCell (p := ⟨w.heap.size + 1, 1, none⟩) (by simp) (.slice la (factTo x k).length lc))
        have M9 := Lib.hid (MineK.far (MineK.far HO.out (p := ⟨w.heap.size + 1, 0, none⟩) (by have := HXK.out; simp; omega) (.string nm)) (p := ⟨w.heap.size + 1, 1, none⟩) (by have := HXK.out; simp; omega) (.slice la (factTo x k).length lc))
        clear hl
        go_wp2_with fail
        clear o0 o1 t0 t1 z0 z1 hl1
        generalize (wr.setCell ⟨w.heap.size + 1, 0, none⟩ (.string nm)).setCell ⟨w.heap.size + 1, 1, none⟩ (.slice la (factTo x k).length lc) = w9 at *
        obtain ⟨t0, t1⟩ := T9.out.cells
        have HFZ : Hid (factZ x = ⟨nm, factTo x k⟩) := by
          show _ = _
          rw [factZ, HDO.out, HAR.out, HNM.out, Int.toNat_natCast]; rfl
        have HRL : RepLG (fun b => w.heap.size ≤ b ∧ b < w9.heap.size) w9 (factTo x k) (.slice la (factTo x k).length lc) := lg_of_slg (MineK.slg M9.out (fun m h1 h2 => ⟨by have := HXK.out; omega, h2⟩) (by rw [HLL.out]; have := HAR3.out; omega))
        exact bodyPost_ret (v := .agg #[.string nm, .slice la (factTo x k).length lc]) (by simp [results, Try.results17, go_sem, t0, t1]) rfl ⟨.slice la (factTo x k).length lc, by rw [HFZ.out], by rw [HFZ.out]; exact ⟨rfl, HOK.out.1, HRL⟩, B9.out⟩

end Go.Proofs.Ytkaiihoijcpldaa
