/-
  value.Print and what it calls, as contracts.
-/
import Derived.Test.YtgpgjaenbhbbgaaDoorRight
import Derived.Test.YtgpgjaenbhbbgaaDoorBuilder
import Derived.WalkSmall
namespace Go.Proofs.YtgpgjaenbhbbgaaDoor
open Go.RowKit

mutual
def prV : V → List UInt8
  | .mk k n s l => if k = 1 then Lib.itoa n else if k = 2 then 34 :: (s.data.toList ++ [34]) else if k = 3 then s.data.toList else if k = 4 then 91 :: (prL true l ++ [93]) else []
def prL : Bool → List V → List UInt8
  | _, [] => []
  | first, x :: l => (if first = true then [] else [44]) ++ prV x ++ prL false l
end
theorem prL_snoc : ∀ (l : List V) (first : Bool) (x : V), prL first (l ++ [x]) = prL first l ++ ((if first = true ∧ l = [] then [] else [44]) ++ prV x)
  | [], first, x => by simp [prL]
  | y :: l, first, x => by simp [prL, prL_snoc l false x]

theorem prL_take_le : ∀ (l : List V) (k : Nat) {first : Bool}, (prL first (l.take k)).length ≤ (prL first l).length
  | [], k, first => by simp
  | x :: l, 0, first => by simp [prL]
  | x :: l, k + 1, first => by
    have := prL_take_le l k (first := false)
    simp only [List.take_succ_cons, prL, List.length_append]
    omega

/-- The world holds the table of strconv's powers of ten. -/
def TabOk (w : World) : Prop := Lib.TabIs Tryd.prog w "internal/strconv.uint64pow10" .u64 Lib.pow10Tab

/-- Each block that there was stands as it was. -/
def Stands (w w' : World) : Prop := Below w.heap.size w w'

theorem Stands.kept {w w' : World} (h : Stands w w') : ∀ (k : Nat) (o : Obj), w.heap[k]? = some o → w'.heap[k]? = some o := fun k _ hk =>
  (h.block k ((Array.getElem?_eq_some_iff.1 hk).1)).trans hk
theorem Stands.others {w w' : World} (h : Stands w w') (e : TypeId) (b : Option Nat) : Lib.OthersKept e b w w' := fun k o hk _ _ => h.kept k o hk
theorem builder_kept {T e : TypeId} {B b : Nat} {bs : List Value} {w w' : World} (h : Lib.IsBuilderF T e B b bs w) (hk : ∀ (k : Nat) (o : Obj), w.heap[k]? = some o → w'.heap[k]? = some o) : Lib.IsBuilderF T e B b bs w' := by
  have one : ∀ p, Lib.BuilderAtF T e B b p bs w → Lib.BuilderAtF T e B b p bs w' := by
    rintro p ⟨hB, v, hb, hown, hne⟩
    refine ⟨hB, v, hk _ _ hb, ⟨hown.1, ?_⟩, hne⟩
    rcases hown.2 with hn | ⟨g, cap, cur, fz, hv, hbg, hg, rest⟩
    · exact .inl hn
    · exact .inr ⟨g, cap, cur, fz, hv, hbg, hk _ _ hg, rest⟩
  exact h.elim (fun x => .inl (one _ x)) (fun x => .inr (one _ x))

theorem stands_grow (w : World) (k : Nat) (os : Array Obj) : Stands w (Sort.grow (w.drewN k) os) :=
  ⟨rfl, rfl, rfl, by simp [World.drewN], fun i hi => Sort.heap_grow_old (w.drewN k) os hi⟩
theorem stands_alloc (w : World) (o : Obj) : Stands w (w.alloc o) := (Below.refl _ w).alloc (Nat.le_refl _) o

theorem gTab : Tryd.prog.globalNamed "internal/strconv.uint64pow10" = some 1 := by kernel_rfl

theorem cell_of_block {w : World} {k i : Nat} {cs : Array Value} {t : TypeId} {fz : Nat × Nat} (h : w.heap[k]? = some (.cells cs t fz)) (v : Value) (hv : cs[i]? = some v) : w.cell? ⟨k, i, none⟩ = some v := by
  simp [World.cell?, h, hv]

theorem TabOk.below {B : Nat} {w w' : World} (h : TabOk w) (hB : 1 < B) (hb : Below B w w') : TabOk w' := var?_below hb gTab hB h

/-- What is written: the builder at b (its base B) holds so many bytes more; what lay below B, and every other block that is no row of bytes, stands. -/
def Wrote (B b : Nat) (acc : List UInt8) (w w' : World) : Prop :=
  Lib.IsBuilderF 81 5 B b (Lib.byteCells acc) w' ∧ Below B w w' ∧ Lib.OthersKept 5 (some b) w w'

def WriteAt (x : V) : Prop := ∀ (C B b : Nat) (acc : List UInt8) (w : World) (c0 c1 c2 c3 : Value), C ≤ B → B ≤ w.heap.size → 1 < B → TabOk w → RepV C w x c0 c1 c2 c3 →
  Lib.IsBuilderF 81 5 B b (Lib.byteCells acc) w → acc.length + (prV x).length ≤ 140737488355328 →
  Calls Tryd.prog 58 #[.pointer (some ⟨b, 0, none⟩), .agg #[c0, c1, c2, c3]] w fun e w' => e = .returned (.tuple #[]) ∧ Wrote B b (acc ++ prV x) w w'
def WriteListAt (l : List V) : Prop := ∀ (C B b : Nat) (acc : List UInt8) (w : World) (a : Value), C ≤ B → B ≤ w.heap.size → 1 < B → TabOk w → RepL C w l a →
  Lib.IsBuilderF 81 5 B b (Lib.byteCells acc) w → acc.length + (prL true l).length + 2 ≤ 140737488355328 →
  Calls Tryd.prog 92 #[.pointer (some ⟨b, 0, none⟩), a] w fun e w' => e = .returned (.tuple #[]) ∧ Wrote B b (acc ++ 91 :: (prL true l ++ [93])) w w'

/-- The two writers, over bytes. -/
theorem wbyte (B b : Nat) (acc : List UInt8) (c : UInt8) (w : World) (h : Lib.IsBuilderF 81 5 B b (Lib.byteCells acc) w) (hl : acc.length + 1 ≤ 140737488355328) (hB : B ≤ w.heap.size) :
    Calls Tryd.prog 91 #[.pointer (some ⟨b, 0, none⟩), .int .u8 c.toNat] w fun e w' => e = .returned .nilIface ∧ Wrote B b (acc ++ [c]) w w' :=
  (writeByte_any B b _ _ w h (by simpa [Lib.byteCells_length] using hl) hB).mono fun e w' ⟨he, h1, h2, h3⟩ => ⟨he, Or.inr (by rw [Lib.byteCells_append]; exact h1), h2, h3⟩
theorem wstr (B b : Nat) (acc : List UInt8) (s : ByteArray) (w : World) (h : Lib.IsBuilderF 81 5 B b (Lib.byteCells acc) w) (hl : acc.length + s.size ≤ 140737488355328) (hB : B ≤ w.heap.size) :
    Calls Tryd.prog 89 #[.pointer (some ⟨b, 0, none⟩), .string s] w fun e w' => e = .returned (.tuple #[.int .i64 s.size, .nilIface]) ∧ Wrote B b (acc ++ s.data.toList) w w' :=
  (writeString_any B b _ _ w h (by simpa [Lib.byteCells_length] using hl) hB).mono fun e w' ⟨he, h1, h2, h3⟩ => ⟨he, Or.inr (by rw [Lib.byteCells_append, ← Lib.strCells_eq]; exact h1), h2, h3⟩

theorem Wrote.trans {B b : Nat} {acc acc' : List UInt8} {w w1 w2 : World} (h : Wrote B b acc w w1) (k : Wrote B b acc' w1 w2) : Wrote B b acc' w w2 :=
  ⟨k.1, h.2.1.trans k.2.1, h.2.2.trans k.2.2⟩
theorem Wrote.start {B b : Nat} {acc : List UInt8} {w w' : World} (h : Lib.IsBuilderF 81 5 B b (Lib.byteCells acc) w) (hB : B ≤ w.heap.size) (hs : Stands w w') : Wrote B b acc w w' :=
  ⟨builder_kept h hs.kept, Below.mono hs hB, hs.others _ _⟩
/-- A block of values stands behind what is written. -/
theorem Wrote.box {B b : Nat} {acc : List UInt8} {w w' : World} (h : Wrote B b acc w w') {k : Nat} {cs : Array Value} {t : TypeId} {fz : Nat × Nat} (ht : t ≠ 5) (hk : k ≠ b) (hb : w.heap[k]? = some (.cells cs t fz)) : w'.heap[k]? = some (.cells cs t fz) :=
  h.2.2 k _ hb (fun e => hk (Option.some.inj e)) (fun c f e => ht (by cases e; rfl))

theorem builder_lt {B b : Nat} {bs : List Value} {T e : TypeId} {w : World} (h : Lib.IsBuilderF T e B b bs w) : b < w.heap.size := h.elim (fun x => x.lt) (fun x => x.lt)

theorem alloc_new (w : World) (o : Obj) : (w.alloc o).heap[w.heap.size]? = some o := by
  show (w.heap.push o)[w.heap.size]? = _
  simp

theorem size_mk (l : List UInt8) : (⟨l.toArray⟩ : ByteArray).size = l.length := by
  show l.toArray.size = _
  simp

set_option maxRecDepth 100000 in
set_option maxHeartbeats 1000000 in
theorem write_of (x : V) (hL : ∀ l, x.list = l → WriteListAt l) : WriteAt x := by
  cases x with
  | mk k n s l =>
  intro C B b acc w c0 c1 c2 c3 hCB hB hgB htab hx hbu hlen
  rw [repV_mk] at hx
  obtain ⟨rfl, rfl, rfl, hk, hn, hs, hl⟩ := hx
  have hl' := hl
  obtain ⟨aa, ab, ao, ac, rfl, hlac, hac, -⟩ := hl'
  have HL := Lib.hid hl; clear hl
  have HLL := Lib.hid (hL l rfl); clear hL
  have hlt := builder_lt hbu
  have HBU := Lib.hid hbu; clear hbu
  have HTAB := Lib.hid htab; clear htab
  have hst : Stands w (w.alloc (.cells #[.int .i64 k, .int .i64 n, .string s, .slice aa l.length ac] 24)) := stands_alloc _ _
  have W0 := Wrote.start HBU.out hB hst
  have hbox : (w.alloc (.cells #[.int .i64 k, .int .i64 n, .string s, .slice aa l.length ac] 24)).heap[w.heap.size]? = some (.cells #[.int .i64 k, .int .i64 n, .string s, .slice aa l.length ac] 24 (0, 0)) := alloc_new _ _
  have HBOX := Lib.hid hbox; clear hbox
  by_cases e1 : k = 1
  · subst e1
    have HE : Hid (prV (.mk 1 n s l) = Lib.itoa n) := by show _ = _; simp [prV]
    go_enter Tryd.func58, Tryd.ntmps58
    go_wp2_with fail
    refine (Tryd.strconv_Itoa n hn.1 hn.2 _ (HTAB.out.below hgB W0.2.1)).mono ?_
    rintro e w' ⟨rfl, kk, os, rfl⟩
    have W1 := W0.trans (Wrote.start W0.1 (by simp; omega) (stands_grow _ kk os))
    generalize Sort.grow _ os = w1 at *
    have hz : B ≤ w1.heap.size := Nat.le_trans hB W1.2.1.size
    go_wp2_with fail
    refine (wstr B b acc _ _ W1.1 (by rw [HE.out] at hlen; rw [size_mk]; exact hlen) hz).mono ?_
    rintro e w2 ⟨rfl, W2⟩
    go_wp2_with fail
    go_end0
    refine ⟨rfl, ?_⟩
    rw [HE.out]
    exact W1.trans W2
  by_cases e2 : k = 2
  · subst e2
    have HE : Hid (prV (.mk 2 n s l) = 34 :: (s.data.toList ++ [34])) := by show _ = _; simp [prV]
    have HLE : Hid (acc.length + s.size + 2 ≤ 140737488355328) := by
      show _ ≤ _
      rw [HE.out] at hlen
      have : s.data.toList.length = s.size := by simp
      simp only [List.length_cons, List.length_append, List.length_nil, this] at hlen
      omega
    clear hlen
    go_enter Tryd.func58, Tryd.ntmps58
    go_wp2_with fail
    refine (wbyte B b acc 34 _ W0.1 (by have := HLE.out; omega) (by simp; omega)).mono ?_
    rintro e w1 ⟨rfl, W1⟩
    have b1 := W1.box (by decide) (by omega) HBOX.out
    have c2 := cell_of_block (i := 2) b1 (.string s) rfl
    have hz : B ≤ w1.heap.size := Nat.le_trans hB (W0.trans W1).2.1.size
    have HB1 := Lib.hid b1; clear b1
    go_wp2_with fail
    refine (wstr B b _ _ _ W1.1 (by have := HLE.out; simp; omega) hz).mono ?_
    rintro e w2 ⟨rfl, W2⟩
    have hz2 : B ≤ w2.heap.size := Nat.le_trans hz W2.2.1.size
    have hsl : s.data.toList.length = s.size := by simp
    have HSL := Lib.hid hsl; clear hsl
    clear c2
    go_wp2_with fail
    refine (wbyte B b _ 34 _ W2.1 (by have := HLE.out; simp only [List.length_append, HSL.out, List.length_cons, List.length_nil]; omega) hz2).mono ?_
    rintro e w3 ⟨rfl, W3⟩
    go_wp2_with fail
    go_end0
    refine ⟨rfl, ?_⟩
    rw [HE.out]
    have := ((W0.trans W1).trans W2).trans W3
    simpa using this
  by_cases e3 : k = 3
  · subst e3
    have HE : Hid (prV (.mk 3 n s l) = s.data.toList) := by show _ = _; simp [prV]
    have HLE : Hid (acc.length + s.size ≤ 140737488355328) := by
      show _ ≤ _
      rw [HE.out] at hlen
      have : s.data.toList.length = s.size := by simp
      omega
    clear hlen
    go_enter Tryd.func58, Tryd.ntmps58
    go_wp2_with fail
    refine (wstr B b _ _ _ W0.1 HLE.out (by simp; omega)).mono ?_
    rintro e w2 ⟨rfl, W2⟩
    go_wp2_with fail
    go_end0
    refine ⟨rfl, ?_⟩
    rw [HE.out]
    exact W0.trans W2
  by_cases e4 : k = 4
  · subst e4
    have HE : Hid (prV (.mk 4 n s l) = 91 :: (prL true l ++ [93])) := by show _ = _; simp [prV]
    have HLE : Hid (acc.length + (prL true l).length + 2 ≤ 140737488355328) := by
      show _ ≤ _
      rw [HE.out] at hlen
      simp only [List.length_cons, List.length_append, List.length_nil] at hlen
      omega
    clear hlen
    go_enter Tryd.func58, Tryd.ntmps58
    go_wp2_with fail
    refine (HLL.out C B b acc _ _ hCB (by simp; omega) hgB (HTAB.out.below hgB W0.2.1) (RepL.below (fun j hj => W0.2.1.block j (by omega)) HL.out) W0.1 HLE.out).mono ?_
    rintro e w2 ⟨rfl, W2⟩
    go_wp2_with fail
    go_end0
    refine ⟨rfl, ?_⟩
    rw [HE.out]
    exact W0.trans W2
  · have f1 : (k == 1) = false := by simp [e1]
    have f2 : (k == 2) = false := by simp [e2]
    have f3 : (k == 3) = false := by simp [e3]
    have f4 : (k == 4) = false := by simp [e4]
    have HE : Hid (prV (.mk k n s l) = []) := by show _ = _; simp [prV, e1, e2, e3, e4]
    clear e1 e2 e3 e4
    go_enter Tryd.func58, Tryd.ntmps58
    go_wp2_with fail
    go_end0
    refine ⟨rfl, ?_⟩
    rw [HE.out]
    simpa using W0

set_option maxRecDepth 100000 in
set_option maxHeartbeats 1000000 in
theorem writeList_of (l : List V) (hW : ∀ x, x ∈ l → WriteAt x) : WriteListAt l := by
  intro C B b acc w a hCB hB hgB htab ha hbu hlen
  obtain ⟨aa, ab, ao, ac, rfl, hal, hac, haa, hab, hax⟩ := ha
  have HW := Lib.hid hW; clear hW
  have HAX := Lib.hid hax; clear hax
  have HAA := Lib.hid haa; clear haa
  have hlt := builder_lt hbu
  have HTAB := Lib.hid htab; clear htab
  go_enter Tryd.func92, Tryd.ntmps92
  go_wp2_with fail
  refine (wbyte B b acc 91 _ hbu (by omega) hB).mono ?_
  rintro e w0 ⟨rfl, W0⟩
  clear hbu
  go_wp2_with fail
  go_loopw [10] (fun i wr => ∃ k : Nat, k ≤ l.length ∧ i = .int .i64 k ∧ Wrote B b (acc ++ 91 :: prL true (l.take k)) w wr) (fun i _ => l.length - (intOf i).toNat)
  case atStart => exact ⟨0, Nat.zero_le _, rfl, by simpa [prL] using W0⟩
  case round =>
    obtain ⟨k, hk1, rfl, WR⟩ := hrel
    by_cases hl : k < l.length
    · obtain ⟨x0, x1, x2, x3, g0, g1, g2, g3, gr⟩ := HAX.out k hl
      have hab' : ab < C := hab (by omega)
      obtain rfl := HAA.out (by omega)
      rw [← WR.2.1.cell (by simp; omega)] at g0 g1 g2 g3
      have hs := WR.2.1.size
      obtain ⟨fa, fc, rfl, rfl, rfl, rfl⟩ := gr.form
      have hpre : (prL true (l.take (k + 1))).length ≤ (prL true l).length := prL_take_le l (k + 1)
      have hts : prL true (l.take (k + 1)) = prL true (l.take k) ++ ((if k = 0 then [] else [44]) ++ prV l[k]) := by
        rw [List.take_succ_eq_append_getElem hl, prL_snoc]
        by_cases e : k = 0
        · subst e; simp
        · rw [if_neg (by simp [e]; intro h; rw [h] at hl; simp at hl), if_neg e]
      have HLE : Hid (acc.length + 1 + (prL true (l.take k)).length + (if k = 0 then [] else [44] : List UInt8).length + (prV l[k]).length + 1 ≤ 140737488355328) := by
        show _ ≤ _
        rw [hts] at hpre
        simp only [List.length_append] at hpre
        omega
      have HTS := Lib.hid hts; clear hts hpre
      have W1 := Wrote.start WR.1 (by omega) (stands_alloc wr (.cells #[.int .i64 l[k].kind, .int .i64 l[k].num, .string l[k].text, .slice fa l[k].list.length fc] 24))
      have HBOX := Lib.hid (alloc_new wr (.cells #[.int .i64 l[k].kind, .int .i64 l[k].num, .string l[k].text, .slice fa l[k].list.length fc] 24))
      by_cases hk0 : k = 0
      · have hk0' : decide (0 < k) = false := by simp [hk0]
        have HK0 := Lib.hid hk0; clear hk0
        go_wp2_with fail
        refine (HW.out _ (List.getElem_mem hl) C B b _ _ _ _ _ _ hCB (by simp; omega) hgB (HTAB.out.below hgB (WR.trans W1).2.1) (RepV.below (fun j hj => (WR.trans W1).2.1.block j (by omega)) _ gr) W1.1 (by have := HLE.out; rw [if_pos HK0.out] at this; simp at this ⊢; omega)).mono ?_
        rintro e w3 ⟨rfl, W3⟩
        go_wp2_with fail
        go_roundw
        case rel => exact ⟨k + 1, by omega, by go_num, by
          have := (WR.trans W1).trans W3
          rw [HTS.out, if_pos HK0.out]
          simpa using this⟩
        case measure => simp [intOf]; omega
      · have hk0' : decide (0 < k) = true := by simp; omega
        have hk1' : 0 < k := by omega
        have HK0 := Lib.hid hk0; clear hk0
        go_wp2_with fail
        refine (wbyte B b _ 44 _ W1.1 (by have := HLE.out; rw [if_neg HK0.out] at this; simp at this ⊢; omega) (by simp; omega)).mono ?_
        rintro e w2 ⟨rfl, W2⟩
        have b1 := W2.box (by decide) (by omega) HBOX.out
        have d0 := cell_of_block (i := 0) b1 _ rfl
        have d1 := cell_of_block (i := 1) b1 _ rfl
        have d2 := cell_of_block (i := 2) b1 _ rfl
        have d3 := cell_of_block (i := 3) b1 _ rfl
        have W12 := (WR.trans W1).trans W2
        have hz2 : B ≤ w2.heap.size := Nat.le_trans hB W12.2.1.size
        clear b1 g0 g1 g2 g3
        go_wp2_with fail
        refine (HW.out _ (List.getElem_mem hl) C B b _ _ _ _ _ _ hCB hz2 hgB (HTAB.out.below hgB W12.2.1) (RepV.below (fun j hj => W12.2.1.block j (by omega)) _ gr) W2.1 (by have := HLE.out; rw [if_neg HK0.out] at this; simp at this ⊢; omega)).mono ?_
        rintro e w3 ⟨rfl, W3⟩
        clear d0 d1 d2 d3
        go_wp2_with fail
        go_roundw
        case rel => exact ⟨k + 1, by omega, by go_num, by
          have := W12.trans W3
          rw [HTS.out, if_neg HK0.out]
          simpa using this⟩
        case measure => simp [intOf]; omega
    · have hke : k = l.length := by omega
      have WR' : Wrote B b (acc ++ 91 :: prL true l) w wr := by rw [hke, List.take_length] at WR; exact WR
      clear WR hke
      have hz2 : B ≤ wr.heap.size := Nat.le_trans hB WR'.2.1.size
      go_wp2_with fail
      refine (wbyte B b _ 93 _ WR'.1 (by simp; omega) hz2).mono ?_
      rintro e w2 ⟨rfl, W2⟩
      go_wp2_with fail
      go_end0
      refine ⟨rfl, ?_⟩
      simpa using WR'.trans W2

end Go.Proofs.YtgpgjaenbhbbgaaDoor
