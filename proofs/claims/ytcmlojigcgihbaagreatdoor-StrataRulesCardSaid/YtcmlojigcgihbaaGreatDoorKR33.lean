/-
  BaseCases, SizeMk, Builder, Print, Printed
-/
import Derived.Test.YtcmlojigcgihbaaGreatDoorKR02
import Derived.Test.YtcmlojigcgihbaaGreatDoorKR01
import Derived.RowKit
import Derived.WalkKit
import Derived.WalkSpells
import Derived.Lib.FrozenHead2
import Derived.Lib.OthersKept
import Derived.WalkSmall
namespace Go.Proofs.YtcmlojigcgihbaaGreatDoor
open Go.RowKit
theorem baseB_cases {k n : Int} {s : ByteArray} {l : List V} {b : Bool} (h : baseB k n s l b = true) :
  (k = 1 ∧ s.toList.isEmpty = true ∧ l = [] ∧ -2147483647 ≤ n ∧ n ≤ 2147483647) ∨ (k = 2 ∧ n = 0 ∧ l = [] ∧ textB s = true) ∨ (k = 3 ∧ n = 0 ∧ l = [] ∧ nameB s = true) ∨ (k = 4 ∧ n = 0 ∧ s.toList.isEmpty = true ∧ b = true) := by
 unfold baseB at h
 split at h
 ·simp at h; simp_all
 ·split at h
  ·simp at h; simp_all
  ·split at h
   ·simp at h; simp_all
   ·split at h
    ·simp at h; simp_all
    ·cases h
end Go.Proofs.YtcmlojigcgihbaaGreatDoor
namespace Go.Proofs.YtcmlojigcgihbaaGreatDoor
open Go.RowKit
theorem size_mk (l : List UInt8) : (⟨l.toArray⟩ : ByteArray).size = l.length := by
 show l.toArray.size = _
 simp
end Go.Proofs.YtcmlojigcgihbaaGreatDoor
namespace Go.Proofs.YtcmlojigcgihbaaGreatDoor
open Go.RowKit
theorem infoBuilder : (Tryz.prog.info? 147).map (fun i => i.size) = some 2 := by kernel_rfl
theorem infoByte : (Tryz.prog.info? 5).map (fun i => (i.zero, i.size, i.bytes)) = some (some (.int .u8 0), 1, 1) := by kernel_rfl
set_option maxHeartbeats 1000000 in
set_option maxRecDepth 100000 in
theorem copyCheck_used (b : Nat) (w : World) (h0 : w.cell? ⟨b, 0, none⟩ = some (.pointer (some ⟨b, 0, none⟩))) :
  Calls Tryz.prog 142 #[.pointer (some ⟨b, 0, none⟩)] w fun e w' => e = .returned (.tuple #[]) ∧ w = w' := by
 obtain ⟨j, hj, _⟩ := Option.map_eq_some_iff.1 infoBuilder;go_enter Tryz.func142, Tryz.ntmps142
 go_wp2
 rw [Lib.run_neq_ptr_same w _ Tryz.underlying145 hj];go_wp2
 go_end0
 exact ⟨rfl, rfl⟩
set_option maxHeartbeats 1000000 in
set_option maxRecDepth 100000 in
theorem copyCheck_fresh (b : Nat) (w : World) (h0 : w.cell? ⟨b, 0, none⟩ = some (.pointer none)) (hsh : w.shape? b = some (147, 2)) (hfz : w.frozen? ⟨b, 0, none⟩ = false) :
  Calls Tryz.prog 142 #[.pointer (some ⟨b, 0, none⟩)] w fun e w' => e = .returned (.tuple #[]) ∧ w' = w.setCell ⟨b, 0, none⟩ (.pointer (some ⟨b, 0, none⟩)) := by
 obtain ⟨j, hj, hjs⟩ := Option.map_eq_some_iff.1 infoBuilder;go_enter Tryz.func142, Tryz.ntmps142
 go_wp2
 rw [Lib.run_to_unsafe w ⟨b, 0, none⟩ Tryz.underlying145 Tryz.underlying187 hj (by rw [hjs]; decide) hsh (Nat.zero_lt_succ 1)];simp only [Result.andThen]
 rw [Oper.upon_value];go_wp2
 rw [run_callFunc_extern Tryz.func162 (by kernel_rfl) (by kernel_rfl) (by kernel_rfl) (e := Extern.AbiNoEscape.same) (by kernel_rfl), Lib.run_noEscape];simp only [Result.andThen]
 rw [Oper.upon_value];go_wp2
 rw [Lib.run_from_unsafe w ⟨b, 0, none⟩ Tryz.underlying187 Tryz.underlying145 hj hsh (by kernel_rfl)];simp only [Result.andThen]
 rw [Oper.upon_value];go_wp2
 go_end0
 exact ⟨rfl, rfl⟩
def Wrote' (B b : Nat) (bs : List Value) (w w' : World) : Prop :=
 Lib.BuilderAtF 147 5 B b (.pointer (some ⟨b, 0, none⟩)) bs w' ∧ Below B w w' ∧ Lib.OthersKept 5 (some b) w w'
theorem copyCheck_any (B b : Nat) (bs : List Value) (w : World) (h : Lib.IsBuilderF 147 5 B b bs w) :
  Calls Tryz.prog 142 #[.pointer (some ⟨b, 0, none⟩)] w fun e w' => e = .returned (.tuple #[]) ∧ Wrote' B b bs w w' := by
 rcases h with h | h
 ·exact (copyCheck_fresh b w h.cell0 h.shape h.frozen0).mono fun e w' ⟨he, hw⟩ => ⟨he, hw ▸ ⟨h.used _, (Below.refl B w).setCell (p := ⟨b, 0, none⟩) h.1 _, (Lib.OthersKept.refl _ _ w).setCell ⟨b, 0, none⟩ rfl _⟩⟩
 ·exact (copyCheck_used b w h.cell0).mono fun e w' ⟨he, hw⟩ => ⟨he, hw ▸ ⟨h, Below.refl B _, Lib.OthersKept.refl _ _ _⟩⟩
theorem wrote_of {B b : Nat} {bs news : List Value} {v v' : Value} {w w1 w1' w2 : World} (hB : B ≤ b) (hBw : B ≤ w1.heap.size) (hbk : w1.heap[b]? = some (.cells #[.pointer (some ⟨b, 0, none⟩), v] 147 (0, 0)))
  (hown : w1'.ownsRowF B 5 1 v bs.length bs) (hne : v.ownBlock ≠ some b) (h1 : Below B w w1) (k1 : Lib.OthersKept 5 (some b) w w1) (hst : Below w1.heap.size w1 w1')
  (hown' : w2.ownsRowF B 5 1 v' (bs.length + news.length) (bs ++ news)) (hg : w1'.grownBy w2 v.ownBlock) :
  w2.heap[b]? = some (.cells #[.pointer (some ⟨b, 0, none⟩), v] 147 (0, 0)) ∧ Wrote' B b (bs ++ news) w (w2.setCell ⟨b, 1, none⟩ v') := by
 have hlt : b < w1.heap.size := (Array.getElem?_eq_some_iff.1 hbk).1;have hs := hst.size
 have hb2 : w2.heap[b]? = some (.cells #[.pointer (some ⟨b, 0, none⟩), v] 147 (0, 0)) := by
  rw [hg.block b (by omega) (fun e => hne e.symm), hst.block b hlt]; exact hbk
 have kk : Lib.OthersKept 5 (some b) w w1' := fun k o hk hkb ho => by
  have := k1 k o hk hkb ho;rw [hst.block k (Array.getElem?_eq_some_iff.1 this).1]; exact this
 refine ⟨hb2, Lib.BuilderAtF.put hB hb2 (bs' := bs ++ news) (by simpa using hown') (by decide), ?_, (kk.grown hg (Lib.ownsRowF_kind hown)).setCell ⟨b, 1, none⟩ rfl _⟩;exact (((h1.trans (hst.mono hBw))).grown hg (by omega) (fun k hk => (hown.lt k hk).1)).setCell (p := ⟨b, 1, none⟩) hB _
set_option maxHeartbeats 2000000 in
set_option maxRecDepth 100000 in
theorem writeByte_any (B b : Nat) (bs : List Value) (c : Int) (w : World) (h : Lib.IsBuilderF 147 5 B b bs w) (hlen : bs.length + 1 ≤ 140737488355328) (hBw : B ≤ w.heap.size) :
  Calls Tryz.prog 111 #[.pointer (some ⟨b, 0, none⟩), .int .u8 c] w fun e w' => e = .returned .nilIface ∧ Wrote' B b (bs ++ [.int .u8 c]) w w' := by
 obtain ⟨i0, hi, hz0, hz1, hz2⟩ := info_parts infoByte;go_enter Tryz.func111, Tryz.ntmps111
 go_wp2_with fail
 refine (copyCheck_any B b bs _ h).mono ?_;rintro e w1 ⟨rfl, ⟨hB, v, hbk, hown, hne⟩, hb1, hk1⟩;have hsz := hb1.size;have c0 : w1.cell? ⟨b, 0, none⟩ = some (.pointer (some ⟨b, 0, none⟩)) := by rw [Lib.cell_of_heap hbk]; rfl
 have c1 : w1.cell? ⟨b, 1, none⟩ = some v := by rw [Lib.cell_of_heap hbk]; rfl
 go_wp2_with (at_builtin; refine wpList_append_ownF _ rfl _ _ 92 rfl B 5 i0 (.int .u8 0) 1 1 Tryz.underlying92 hi hz0 hz1 hz2 rfl (by decide) _ _ _ rfl (hown.alloc _) ⟨w1.heap.size, 0, none⟩ 1 1 [.int .u8 c] rfl rfl ?c1 ?c2 ?c3 ?c4 ?c5 ?_)
 case c1 =>
  intro j u hj
  match j, hj with
  | 0, hj => simp at hj; subst hj; simp [Addr.add]
 case c2 => intro u hu; simp at hu; subst hu; rfl
 case c3 => unfold maxLen; omega
 case c4 => omega
 case c5 => simp; omega
 intro v' w2 hown' hgrow _;obtain ⟨hb2, hfin⟩ := wrote_of (news := [.int .u8 c]) hB (by omega) hbk (hown.alloc _) hne hb1 hk1 ((Below.refl _ w1).alloc (Nat.le_refl _) _) hown' hgrow;have d1 : w2.cell? ⟨b, 1, none⟩ = some v := by rw [Lib.cell_of_heap hb2]; rfl
 have d0 : w2.cell? ⟨b, 0, none⟩ = some (.pointer (some ⟨b, 0, none⟩)) := by rw [Lib.cell_of_heap hb2]; rfl
 have f1 : w2.frozen? ⟨b, 1, none⟩ = false := Lib.frozen_of_heap hb2 1
 obtain ⟨g, n', cap, rfl⟩ : ∃ g n' cap, v' = .slice g n' cap := by
  rcases hown'.2 with ⟨hv, _⟩ | ⟨g, cap, cur, fz, hv, _⟩
  ·exact ⟨_, _, _, hv⟩
  ·exact ⟨_, _, _, hv⟩
 have HF := Lib.hid hfin; clear hfin
 go_wp2
 go_ret
 exact ⟨rfl, HF.out⟩
set_option maxHeartbeats 2000000 in
set_option maxRecDepth 100000 in
theorem writeString_any (B b : Nat) (bs : List Value) (s : ByteArray) (w : World) (h : Lib.IsBuilderF 147 5 B b bs w) (hlen : bs.length + s.size ≤ 140737488355328) (hBw : B ≤ w.heap.size) :
  Calls Tryz.prog 110 #[.pointer (some ⟨b, 0, none⟩), .string s] w fun e w' => e = .returned (.tuple #[.int .i64 s.size, .nilIface]) ∧ Wrote' B b (bs ++ Lib.strCells s) w w' := by
 obtain ⟨i0, hi, hz0, hz1, hz2⟩ := info_parts infoByte;go_enter Tryz.func110, Tryz.ntmps110
 go_wp2_with fail
 refine (copyCheck_any B b bs _ h).mono ?_;rintro e w1 ⟨rfl, ⟨hB, v, hbk, hown, hne⟩, hb1, hk1⟩;have hsz := hb1.size;have c0 : w1.cell? ⟨b, 0, none⟩ = some (.pointer (some ⟨b, 0, none⟩)) := by rw [Lib.cell_of_heap hbk]; rfl
 have c1 : w1.cell? ⟨b, 1, none⟩ = some v := by rw [Lib.cell_of_heap hbk]; rfl
 go_wp2_with (at_builtin; refine Lib.wpList_append_own_stringF _ rfl _ _ 92 9 rfl B 5 i0 Tryz.underlying92 Tryz.underlying9 hi hz0 hz1 hz2 _ _ _ rfl hown s rfl ?c3 ?c4 ?c5 ?_)
 case c3 => unfold maxLen; omega
 case c4 => omega
 case c5 => omega
 intro v' w2 hown' hgrow _;obtain ⟨hb2, hfin⟩ := wrote_of (news := Lib.strCells s) hB (by omega) hbk hown hne hb1 hk1 (Below.refl _ w1) (by rw [Lib.strCells_length]; exact hown') hgrow;have d1 : w2.cell? ⟨b, 1, none⟩ = some v := by rw [Lib.cell_of_heap hb2]; rfl
 have d0 : w2.cell? ⟨b, 0, none⟩ = some (.pointer (some ⟨b, 0, none⟩)) := by rw [Lib.cell_of_heap hb2]; rfl
 have f1 : w2.frozen? ⟨b, 1, none⟩ = false := Lib.frozen_of_heap hb2 1
 obtain ⟨g, n', cap, rfl⟩ : ∃ g n' cap, v' = .slice g n' cap := by
  rcases hown'.2 with ⟨hv, _⟩ | ⟨g, cap, cur, fz, hv, _⟩
  ·exact ⟨_, _, _, hv⟩
  ·exact ⟨_, _, _, hv⟩
 have HF := Lib.hid hfin; clear hfin
 go_wp2
 go_ret2
 exact ⟨rfl, HF.out⟩
end Go.Proofs.YtcmlojigcgihbaaGreatDoor
namespace Go.Proofs.YtcmlojigcgihbaaGreatDoor
open Go.RowKit
mutual
def prV : V → List UInt8
 | .mk k n s l => if k = 1 then Lib.itoa n else if k = 2 then 34 :: (s.data.toList ++ [34]) else if k = 3 then s.data.toList else if k = 4 then 91 :: (prL true l ++ [93]) else []
def prL : Bool → List V → List UInt8
 | _, [] => []
 | first, x :: l => (if first = true then [] else [44]) ++ prV x ++ prL false l
end
theorem prL_snoc : ∀ (l : List V) (first : Bool) (x : V), prL first (l ++ [x]) = prL first l ++ ((if first = true ∧ l = [] then [] else [44]) ++ prV x)
 | [], first, x => by simp [prL]
 | y :: l, first, x => by simp [prL, prL_snoc l false x]
theorem prL_take_le : ∀ (l : List V) (k : Nat) {first : Bool}, (prL first (l.take k)).length ≤ (prL first l).length
 | [], k, first => by simp
 | x :: l, 0, first => by simp [prL]
 | x :: l, k + 1, first => by
  have := prL_take_le l k (first := false);simp only [List.take_succ_cons, prL, List.length_append]
  omega
def TabOk (w : World) : Prop := Lib.TabIs Tryz.prog w "internal/strconv.uint64pow10" .u64 Lib.pow10Tab
def Stands (w w' : World) : Prop := Below w.heap.size w w'
theorem Stands.kept {w w' : World} (h : Stands w w') : ∀ (k : Nat) (o : Obj), w.heap[k]? = some o → w'.heap[k]? = some o := fun k _ hk =>
 (h.block k ((Array.getElem?_eq_some_iff.1 hk).1)).trans hk
theorem Stands.others {w w' : World} (h : Stands w w') (e : TypeId) (b : Option Nat) : Lib.OthersKept e b w w' := fun k o hk _ _ => h.kept k o hk
theorem builder_kept {T e : TypeId} {B b : Nat} {bs : List Value} {w w' : World} (h : Lib.IsBuilderF T e B b bs w) (hk : ∀ (k : Nat) (o : Obj), w.heap[k]? = some o → w'.heap[k]? = some o) : Lib.IsBuilderF T e B b bs w' := by
 have one : ∀ p, Lib.BuilderAtF T e B b p bs w → Lib.BuilderAtF T e B b p bs w' := by
  rintro p ⟨hB, v, hb, hown, hne⟩;refine ⟨hB, v, hk _ _ hb, ⟨hown.1, ?_⟩, hne⟩;rcases hown.2 with hn | ⟨g, cap, cur, fz, hv, hbg, hg, rest⟩
  ·exact .inl hn
  ·exact .inr ⟨g, cap, cur, fz, hv, hbg, hk _ _ hg, rest⟩
 exact h.elim (fun x => .inl (one _ x)) (fun x => .inr (one _ x))
theorem stands_grow (w : World) (k : Nat) (os : Array Obj) : Stands w (Sort.grow (w.drewN k) os) :=
 ⟨rfl, rfl, rfl, by simp [World.drewN], fun i hi => Sort.heap_grow_old (w.drewN k) os hi⟩
theorem stands_alloc (w : World) (o : Obj) : Stands w (w.alloc o) := (Below.refl _ w).alloc (Nat.le_refl _) o
theorem gTab : Tryz.prog.globalNamed "internal/strconv.uint64pow10" = some 0 := by kernel_rfl
theorem cell_of_block {w : World} {k i : Nat} {cs : Array Value} {t : TypeId} {fz : Nat × Nat} (h : w.heap[k]? = some (.cells cs t fz)) (v : Value) (hv : cs[i]? = some v) : w.cell? ⟨k, i, none⟩ = some v := by
 simp [World.cell?, h, hv]
theorem TabOk.below {B : Nat} {w w' : World} (h : TabOk w) (hB : 0 < B) (hb : Below B w w') : TabOk w' := var?_below hb gTab hB h
def Wrote (B b : Nat) (acc : List UInt8) (w w' : World) : Prop :=
 Lib.IsBuilderF 147 5 B b (Lib.byteCells acc) w' ∧ Below B w w' ∧ Lib.OthersKept 5 (some b) w w'
def WriteAt (x : V) : Prop := ∀ (C B b : Nat) (acc : List UInt8) (w : World) (c0 c1 c2 c3 : Value), C ≤ B → B ≤ w.heap.size → 0 < B → TabOk w → RepV C w x c0 c1 c2 c3 →
 Lib.IsBuilderF 147 5 B b (Lib.byteCells acc) w → acc.length + (prV x).length ≤ 140737488355328 →
 Calls Tryz.prog 175 #[.pointer (some ⟨b, 0, none⟩), .agg #[c0, c1, c2, c3]] w fun e w' => e = .returned (.tuple #[]) ∧ Wrote B b (acc ++ prV x) w w'
def WriteListAt (l : List V) : Prop := ∀ (C B b : Nat) (acc : List UInt8) (w : World) (a : Value), C ≤ B → B ≤ w.heap.size → 0 < B → TabOk w → RepL C w l a →
 Lib.IsBuilderF 147 5 B b (Lib.byteCells acc) w → acc.length + (prL true l).length + 2 ≤ 140737488355328 →
 Calls Tryz.prog 188 #[.pointer (some ⟨b, 0, none⟩), a] w fun e w' => e = .returned (.tuple #[]) ∧ Wrote B b (acc ++ 91 :: (prL true l ++ [93])) w w'
theorem wbyte (B b : Nat) (acc : List UInt8) (c : UInt8) (w : World) (h : Lib.IsBuilderF 147 5 B b (Lib.byteCells acc) w) (hl : acc.length + 1 ≤ 140737488355328) (hB : B ≤ w.heap.size) :
  Calls Tryz.prog 111 #[.pointer (some ⟨b, 0, none⟩), .int .u8 c.toNat] w fun e w' => e = .returned .nilIface ∧ Wrote B b (acc ++ [c]) w w' :=
 (writeByte_any B b _ _ w h (by simpa [Lib.byteCells_length] using hl) hB).mono fun e w' ⟨he, h1, h2, h3⟩ => ⟨he, Or.inr (by rw [Lib.byteCells_append]; exact h1), h2, h3⟩
theorem wstr (B b : Nat) (acc : List UInt8) (s : ByteArray) (w : World) (h : Lib.IsBuilderF 147 5 B b (Lib.byteCells acc) w) (hl : acc.length + s.size ≤ 140737488355328) (hB : B ≤ w.heap.size) :
  Calls Tryz.prog 110 #[.pointer (some ⟨b, 0, none⟩), .string s] w fun e w' => e = .returned (.tuple #[.int .i64 s.size, .nilIface]) ∧ Wrote B b (acc ++ s.data.toList) w w' :=
 (writeString_any B b _ _ w h (by simpa [Lib.byteCells_length] using hl) hB).mono fun e w' ⟨he, h1, h2, h3⟩ => ⟨he, Or.inr (by rw [Lib.byteCells_append, ← Lib.strCells_eq]; exact h1), h2, h3⟩
theorem Wrote.trans {B b : Nat} {acc acc' : List UInt8} {w w1 w2 : World} (h : Wrote B b acc w w1) (k : Wrote B b acc' w1 w2) : Wrote B b acc' w w2 :=
 ⟨k.1, h.2.1.trans k.2.1, h.2.2.trans k.2.2⟩
theorem Wrote.start {B b : Nat} {acc : List UInt8} {w w' : World} (h : Lib.IsBuilderF 147 5 B b (Lib.byteCells acc) w) (hB : B ≤ w.heap.size) (hs : Stands w w') : Wrote B b acc w w' :=
 ⟨builder_kept h hs.kept, Below.mono hs hB, hs.others _ _⟩
theorem Wrote.box {B b : Nat} {acc : List UInt8} {w w' : World} (h : Wrote B b acc w w') {k : Nat} {cs : Array Value} {t : TypeId} {fz : Nat × Nat} (ht : t ≠ 5) (hk : k ≠ b) (hb : w.heap[k]? = some (.cells cs t fz)) : w'.heap[k]? = some (.cells cs t fz) :=
 h.2.2 k _ hb (fun e => hk (Option.some.inj e)) (fun c f e => ht (by cases e; rfl))
theorem builder_lt {B b : Nat} {bs : List Value} {T e : TypeId} {w : World} (h : Lib.IsBuilderF T e B b bs w) : b < w.heap.size := h.elim (fun x => x.lt) (fun x => x.lt)
theorem alloc_new (w : World) (o : Obj) : (w.alloc o).heap[w.heap.size]? = some o := by
 show (w.heap.push o)[w.heap.size]? = _
 simp
set_option maxRecDepth 100000 in
set_option maxHeartbeats 1000000 in
theorem write_of (x : V) (hL : ∀ l, x.list = l → WriteListAt l) : WriteAt x := by
 cases x with
 | mk k n s l =>
 intro C B b acc w c0 c1 c2 c3 hCB hB hgB htab hx hbu hlen;rw [repV_mk] at hx;obtain ⟨rfl, rfl, rfl, hk, hn, hs, hl⟩ := hx;have hl' := hl;obtain ⟨aa, ab, ao, ac, rfl, hlac, hac, -⟩ := hl';have HL := Lib.hid hl; clear hl
 have HLL := Lib.hid (hL l rfl); clear hL
 have hlt := builder_lt hbu;have HBU := Lib.hid hbu; clear hbu
 have HTAB := Lib.hid htab; clear htab
 have hst : Stands w (w.alloc (.cells #[.int .i64 k, .int .i64 n, .string s, .slice aa l.length ac] 56)) := stands_alloc _ _;have W0 := Wrote.start HBU.out hB hst;have hbox : (w.alloc (.cells #[.int .i64 k, .int .i64 n, .string s, .slice aa l.length ac] 56)).heap[w.heap.size]? = some (.cells #[.int .i64 k, .int .i64 n, .string s, .slice aa l.length ac] 56 (0, 0)) := alloc_new _ _;have HBOX := Lib.hid hbox; clear hbox
 by_cases e1 : k = 1
 ·subst e1
  have HE : Hid (prV (.mk 1 n s l) = Lib.itoa n) := by show _ = _; simp [prV]
  go_enter Tryz.func175, Tryz.ntmps175
  go_wp2_with fail
  refine (Tryz.strconv_Itoa n hn.1 hn.2 _ (HTAB.out.below hgB W0.2.1)).mono ?_;rintro e w' ⟨rfl, kk, os, rfl⟩;have W1 := W0.trans (Wrote.start W0.1 (by simp; omega) (stands_grow _ kk os));generalize Sort.grow _ os = w1 at *;have hz : B ≤ w1.heap.size := Nat.le_trans hB W1.2.1.size;go_wp2_with fail
  refine (wstr B b acc _ _ W1.1 (by rw [HE.out] at hlen; rw [size_mk]; exact hlen) hz).mono ?_;rintro e w2 ⟨rfl, W2⟩;go_wp2_with fail
  go_end0
  refine ⟨rfl, ?_⟩;rw [HE.out];exact W1.trans W2
 by_cases e2 : k = 2
 ·subst e2
  have HE : Hid (prV (.mk 2 n s l) = 34 :: (s.data.toList ++ [34])) := by show _ = _; simp [prV]
  have HLE : Hid (acc.length + s.size + 2 ≤ 140737488355328) := by
   show _ ≤ _
   rw [HE.out] at hlen;have : s.data.toList.length = s.size := by simp
   simp only [List.length_cons, List.length_append, List.length_nil, this] at hlen
   omega
  clear hlen;go_enter Tryz.func175, Tryz.ntmps175
  go_wp2_with fail
  refine (wbyte B b acc 34 _ W0.1 (by have := HLE.out; omega) (by simp; omega)).mono ?_;rintro e w1 ⟨rfl, W1⟩;have b1 := W1.box (by decide) (by omega) HBOX.out;have c2 := cell_of_block (i := 2) b1 (.string s) rfl;have hz : B ≤ w1.heap.size := Nat.le_trans hB (W0.trans W1).2.1.size;have HB1 := Lib.hid b1; clear b1
  go_wp2_with fail
  refine (wstr B b _ _ _ W1.1 (by have := HLE.out; simp; omega) hz).mono ?_;rintro e w2 ⟨rfl, W2⟩;have hz2 : B ≤ w2.heap.size := Nat.le_trans hz W2.2.1.size;have hsl : s.data.toList.length = s.size := by simp
  have HSL := Lib.hid hsl; clear hsl
  clear c2;go_wp2_with fail
  refine (wbyte B b _ 34 _ W2.1 (by have := HLE.out; simp only [List.length_append, HSL.out, List.length_cons, List.length_nil]; omega) hz2).mono ?_;rintro e w3 ⟨rfl, W3⟩;go_wp2_with fail
  go_end0
  refine ⟨rfl, ?_⟩;rw [HE.out];have := ((W0.trans W1).trans W2).trans W3
  simpa using this
 by_cases e3 : k = 3
 ·subst e3
  have HE : Hid (prV (.mk 3 n s l) = s.data.toList) := by show _ = _; simp [prV]
  have HLE : Hid (acc.length + s.size ≤ 140737488355328) := by
   show _ ≤ _
   rw [HE.out] at hlen;have : s.data.toList.length = s.size := by simp
   omega
  clear hlen;go_enter Tryz.func175, Tryz.ntmps175
  go_wp2_with fail
  refine (wstr B b _ _ _ W0.1 HLE.out (by simp; omega)).mono ?_;rintro e w2 ⟨rfl, W2⟩;go_wp2_with fail
  go_end0
  refine ⟨rfl, ?_⟩;rw [HE.out];exact W0.trans W2
 by_cases e4 : k = 4
 ·subst e4
  have HE : Hid (prV (.mk 4 n s l) = 91 :: (prL true l ++ [93])) := by show _ = _; simp [prV]
  have HLE : Hid (acc.length + (prL true l).length + 2 ≤ 140737488355328) := by
   show _ ≤ _
   rw [HE.out] at hlen;simp only [List.length_cons, List.length_append, List.length_nil] at hlen
   omega
  clear hlen;go_enter Tryz.func175, Tryz.ntmps175
  go_wp2_with fail
  refine (HLL.out C B b acc _ _ hCB (by simp; omega) hgB (HTAB.out.below hgB W0.2.1) (RepL.below (fun j hj => W0.2.1.block j (by omega)) HL.out) W0.1 HLE.out).mono ?_;rintro e w2 ⟨rfl, W2⟩;go_wp2_with fail
  go_end0
  refine ⟨rfl, ?_⟩;rw [HE.out];exact W0.trans W2
 ·have f1 : (k == 1) = false := by simp [e1]
  have f2 : (k == 2) = false := by simp [e2]
  have f3 : (k == 3) = false := by simp [e3]
  have f4 : (k == 4) = false := by simp [e4]
  have HE : Hid (prV (.mk k n s l) = []) := by show _ = _; simp [prV, e1, e2, e3, e4]
  clear e1 e2 e3 e4;go_enter Tryz.func175, Tryz.ntmps175
  go_wp2_with fail
  go_end0
  refine ⟨rfl, ?_⟩;rw [HE.out]
  simpa using W0
set_option maxRecDepth 100000 in
set_option maxHeartbeats 1000000 in
theorem writeList_of (l : List V) (hW : ∀ x, x ∈ l → WriteAt x) : WriteListAt l := by
 intro C B b acc w a hCB hB hgB htab ha hbu hlen;obtain ⟨aa, ab, ao, ac, rfl, hal, hac, haa, hab, hax⟩ := ha;have HW := Lib.hid hW; clear hW
 have HAX := Lib.hid hax; clear hax
 have HAA := Lib.hid haa; clear haa
 have hlt := builder_lt hbu;have HTAB := Lib.hid htab; clear htab
 go_enter Tryz.func188, Tryz.ntmps188
 go_wp2_with fail
 refine (wbyte B b acc 91 _ hbu (by omega) hB).mono ?_;rintro e w0 ⟨rfl, W0⟩;clear hbu;go_wp2_with fail
 go_loopw [10] (fun i wr => ∃ k : Nat, k ≤ l.length ∧ i = .int .i64 k ∧ Wrote B b (acc ++ 91 :: prL true (l.take k)) w wr) (fun i _ => l.length - (intOf i).toNat)
 case atStart => exact ⟨0, Nat.zero_le _, rfl, by simpa [prL] using W0⟩
 case round =>
  obtain ⟨k, hk1, rfl, WR⟩ := hrel
  by_cases hl : k < l.length
  ·obtain ⟨x0, x1, x2, x3, g0, g1, g2, g3, gr⟩ := HAX.out k hl
   have hab' : ab < C := hab (by omega);obtain rfl := HAA.out (by omega);rw [← WR.2.1.cell (by simp; omega)] at g0 g1 g2 g3;have hs := WR.2.1.size;obtain ⟨fa, fc, rfl, rfl, rfl, rfl⟩ := gr.form;have hpre : (prL true (l.take (k + 1))).length ≤ (prL true l).length := prL_take_le l (k + 1)
   have hts : prL true (l.take (k + 1)) = prL true (l.take k) ++ ((if k = 0 then [] else [44]) ++ prV l[k]) := by
    rw [List.take_succ_eq_append_getElem hl, prL_snoc]
    by_cases e : k = 0
    ·subst e; simp
    ·rw [if_neg (by simp [e]; intro h; rw [h] at hl; simp at hl), if_neg e]
   have HLE : Hid (acc.length + 1 + (prL true (l.take k)).length + (if k = 0 then [] else [44] : List UInt8).length + (prV l[k]).length + 1 ≤ 140737488355328) := by
    show _ ≤ _
    rw [hts] at hpre;simp only [List.length_append] at hpre
    omega
   have HTS := Lib.hid hts; clear hts hpre
   have W1 := Wrote.start WR.1 (by omega) (stands_alloc wr (.cells #[.int .i64 l[k].kind, .int .i64 l[k].num, .string l[k].text, .slice fa l[k].list.length fc] 56));have HBOX := Lib.hid (alloc_new wr (.cells #[.int .i64 l[k].kind, .int .i64 l[k].num, .string l[k].text, .slice fa l[k].list.length fc] 56))
   by_cases hk0 : k = 0
   ·have hk0' : decide (0 < k) = false := by simp [hk0]
    have HK0 := Lib.hid hk0; clear hk0
    go_wp2_with fail
    refine (HW.out _ (List.getElem_mem hl) C B b _ _ _ _ _ _ hCB (by simp; omega) hgB (HTAB.out.below hgB (WR.trans W1).2.1) (RepV.below (fun j hj => (WR.trans W1).2.1.block j (by omega)) _ gr) W1.1 (by have := HLE.out; rw [if_pos HK0.out] at this; simp at this ⊢; omega)).mono ?_;rintro e w3 ⟨rfl, W3⟩;go_wp2_with fail
    go_roundw
    case rel => exact ⟨k + 1, by omega, by go_num, by
     have := (WR.trans W1).trans W3;rw [HTS.out, if_pos HK0.out]
     simpa using this⟩
    case measure => simp [intOf]; omega
   ·have hk0' : decide (0 < k) = true := by simp; omega
    have hk1' : 0 < k := by omega
    have HK0 := Lib.hid hk0; clear hk0
    go_wp2_with fail
    refine (wbyte B b _ 44 _ W1.1 (by have := HLE.out; rw [if_neg HK0.out] at this; simp at this ⊢; omega) (by simp; omega)).mono ?_;rintro e w2 ⟨rfl, W2⟩;have b1 := W2.box (by decide) (by omega) HBOX.out;have d0 := cell_of_block (i := 0) b1 _ rfl;have d1 := cell_of_block (i := 1) b1 _ rfl;have d2 := cell_of_block (i := 2) b1 _ rfl;have d3 := cell_of_block (i := 3) b1 _ rfl;have W12 := (WR.trans W1).trans W2;have hz2 : B ≤ w2.heap.size := Nat.le_trans hB W12.2.1.size;clear b1 g0 g1 g2 g3;go_wp2_with fail
    refine (HW.out _ (List.getElem_mem hl) C B b _ _ _ _ _ _ hCB hz2 hgB (HTAB.out.below hgB W12.2.1) (RepV.below (fun j hj => W12.2.1.block j (by omega)) _ gr) W2.1 (by have := HLE.out; rw [if_neg HK0.out] at this; simp at this ⊢; omega)).mono ?_;rintro e w3 ⟨rfl, W3⟩;clear d0 d1 d2 d3;go_wp2_with fail
    go_roundw
    case rel => exact ⟨k + 1, by omega, by go_num, by
     have := W12.trans W3;rw [HTS.out, if_neg HK0.out]
     simpa using this⟩
    case measure => simp [intOf]; omega
  ·have hke : k = l.length := by omega
   have WR' : Wrote B b (acc ++ 91 :: prL true l) w wr := by rw [hke, List.take_length] at WR; exact WR
   clear WR hke;have hz2 : B ≤ wr.heap.size := Nat.le_trans hB WR'.2.1.size;go_wp2_with fail
   refine (wbyte B b _ 93 _ WR'.1 (by simp; omega) hz2).mono ?_;rintro e w2 ⟨rfl, W2⟩;go_wp2_with fail
   go_end0
   refine ⟨rfl, ?_⟩
   simpa using WR'.trans W2
end Go.Proofs.YtcmlojigcgihbaaGreatDoor
namespace Go.Proofs.YtcmlojigcgihbaaGreatDoor
open Go.RowKit
mutual
theorem write_any (x : V) : WriteAt x := by
 cases x with
 | mk k n s l => exact write_of _ (fun l' e => by have e' : l = l' := e; rw [← e']; exact writeList_any l)
 termination_by SizeOf.sizeOf x
 decreasing_by simp only [V.mk.sizeOf_spec]; omega
theorem writeList_any (l : List V) : WriteListAt l := writeList_of l (fun x _hx => write_any x)
 termination_by SizeOf.sizeOf l
 decreasing_by exact List.sizeOf_lt_of_mem _hx
end
theorem decDigits_le : ∀ (k u : Nat), u < 10 ^ (k + 1) → (Lib.decDigits u).length ≤ k + 1
 | k, u, h => by
  rw [Lib.decDigits]
  split
  ·simp
  ·match k with
   | 0 => simp at h; omega
   | k + 1 =>
    have := decDigits_le k (u / 10) (by rw [Nat.pow_succ] at h; omega);simp only [List.length_append, List.length_cons, List.length_nil]
    omega
theorem decDigits_ne (u : Nat) : Lib.decDigits u ≠ [] := by
 rw [Lib.decDigits]; split <;> simp
theorem itoa_le (n : Int) (h : -2147483647 ≤ n ∧ n ≤ 2147483647) : (Lib.itoa n).length ≤ 11 := by
 unfold Lib.itoa
 split
 ·have := decDigits_le 9 n.natAbs (by omega)
  simp only [List.length_cons]; omega
 ·have := decDigits_le 9 n.toNat (by omega)
  omega
theorem itoa_ne (n : Int) : Lib.itoa n ≠ [] := by
 unfold Lib.itoa
 split
 ·simp
 ·exact decDigits_ne _
theorem textB_le {s : ByteArray} (h : textB s = true) : s.size ≤ 32 := (of_decide_eq_true h).1
theorem nameB_le {s : ByteArray} (h : nameB s = true) : 1 ≤ s.size ∧ s.size ≤ 16 := ⟨(of_decide_eq_true h).1, (of_decide_eq_true h).2.1⟩
theorem data_length (s : ByteArray) : s.data.toList.length = s.size := by simp
theorem prL_le {b : Nat} : ∀ (l : List V) (first : Bool), (∀ x, x ∈ l → (prV x).length ≤ b) → (prL first l).length ≤ l.length * (b + 1)
 | [], _, _ => by simp [prL]
 | x :: l, first, h => by
  have h1 := h x (by simp);have h2 := prL_le l false (fun y hy => h y (by simp [hy]));simp only [prL, List.length_append, List.length_cons]
  have h3 : (if first = true then [] else [44] : List UInt8).length ≤ 1 := by split <;> simp
  rw [Nat.succ_mul];omega
theorem prV_le : ∀ (d : Nat) (x : V), rightV d x = true → (prV x).length ≤ 64 * 20 ^ d ∧ prV x ≠ []
 | d, .mk k n s l, h => by
  have hp : 1 ≤ 20 ^ d := Nat.one_le_pow _ _ (by omega);rw [rightV_mk] at h;rcases baseB_cases h with ⟨rfl, _, _, h1, h2⟩ | ⟨rfl, _, _, h1⟩ | ⟨rfl, _, _, h1⟩ | ⟨rfl, _, _, h1⟩
  ·have := itoa_le n ⟨h1, h2⟩
   exact ⟨by simp only [prV, if_true]; omega, by simp only [prV, if_true]; exact itoa_ne n⟩
  ·have := textB_le h1
   refine ⟨?_, by simp [prV]⟩;simp only [prV, if_true]
   rw [if_neg (by decide)];simp only [List.length_cons, List.length_append, List.length_nil, data_length]
   omega
  ·have := nameB_le h1
   have e : prV (.mk 3 n s l) = s.data.toList := by simp [prV]
   rw [e];refine ⟨by rw [data_length]; omega, fun e0 => ?_⟩;have := data_length s;rw [e0] at this;simp at this
   omega
  ·have e : prV (.mk 4 n s l) = 91 :: (prL true l ++ [93]) := by simp [prV]
   rw [e];refine ⟨?_, by simp⟩
   match d, h1 with
   | d + 1, h1 =>
    simp only [rightL, Bool.and_eq_true, decide_eq_true_eq, List.all_eq_true] at h1
    have hq : 1 ≤ 20 ^ d := Nat.one_le_pow _ _ (by omega);have h2 := prL_le (b := 64 * 20 ^ d) l true (fun x hx => (prV_le d x (h1.2 x hx)).1);have h3 : l.length * (64 * 20 ^ d + 1) ≤ 16 * (64 * 20 ^ d + 1) := Nat.mul_le_mul_right _ h1.1;simp only [List.length_cons, List.length_append, List.length_nil]
    rw [Nat.pow_succ];omega
theorem ret_str {a b : List UInt8} (h : a = b) : Ending.returned (.string ⟨a.toArray⟩) = .returned (.string ⟨b.toArray⟩) := by rw [h]
def printB (x : V) : List UInt8 := if rightV 4 x = true then prV x else []
set_option maxRecDepth 100000 in
set_option maxHeartbeats 1000000 in
theorem print_any (x : V) (B : Nat) (w : World) (c0 c1 c2 c3 : Value) (hB : B ≤ w.heap.size) (hgB : 0 < w.heap.size) (htab : TabOk w) (hx : RepV B w x c0 c1 c2 c3) :
  Calls Tryz.prog 164 #[.agg #[c0, c1, c2, c3]] w fun e w' => e = .returned (.string ⟨(printB x).toArray⟩) ∧ Below w.heap.size w w' := by
 obtain ⟨fa, fc, rfl, rfl, rfl, rfl⟩ := hx.form;have HX := Lib.hid hx; clear hx
 have HTAB := Lib.hid htab; clear htab
 have hbb : Below w.heap.size w (w.alloc (.cells #[.int .i64 x.kind, .int .i64 x.num, .string x.text, .slice fa x.list.length fc] 56)) := stands_alloc _ _;have HBOX := Lib.hid (alloc_new w (.cells #[.int .i64 x.kind, .int .i64 x.num, .string x.text, .slice fa x.list.length fc] 56));go_enter Tryz.func164, Tryz.ntmps164
 go_wp2_with fail
 refine (right_any x B _ _ _ _ _ (by simp; omega) (RepV.below (fun j hj => hbb.block j (by omega)) _ HX.out)).mono ?_;rintro e w1 ⟨rfl, hb1⟩;have hb2 : Below w.heap.size w w1 := hbb.trans (hb1.mono (by simp));have b1 : w1.heap[w.heap.size]? = _ := (hb1.block w.heap.size (by simp)).trans HBOX.out;have hsz := hb2.size;have hsz1 : w.heap.size < w1.heap.size := (Array.getElem?_eq_some_iff.1 b1).1;have d0 := cell_of_block (i := 0) b1 _ rfl;have d1 := cell_of_block (i := 1) b1 _ rfl;have d2 := cell_of_block (i := 2) b1 _ rfl;have d3 := cell_of_block (i := 3) b1 _ rfl;clear b1
 cases hr : rightV 4 x with
 | false =>
  have HR := Lib.hid hr; clear hr
  go_wp2_with fail
  go_ret
  exact ⟨ret_str (a := []) (by rw [printB, if_neg (by simp [HR.out])]), hb2⟩
 | true =>
  have HR := Lib.hid hr; clear hr
  have HPL := Lib.hid (prV_le 4 x HR.out);go_wp2_with fail
  have hfr := Lib.IsBuilderF.of (Lib.fresh_isBuilder 147 5 w1);have hs3 : Below w1.heap.size w1 (w1.alloc (.cells #[.pointer none, .slice none 0 0] 147)) := stands_alloc _ _;have hb3 : Below w.heap.size w (w1.alloc (.cells #[.pointer none, .slice none 0 0] 147)) := hb2.trans (hs3.mono hsz);refine (write_any x B w1.heap.size w1.heap.size [] _ _ _ _ _ (by omega) (by simp) (by omega) (HTAB.out.below hgB hb3) (RepV.below (fun j hj => hb3.block j (by omega)) _ HX.out) hfr (by have := HPL.out.1; simp; omega)).mono ?_;rintro e w2 ⟨rfl, W2⟩;clear d0 d1 d2 d3;have W2b : Lib.IsBuilderF 147 5 w1.heap.size w1.heap.size (Lib.byteCells (prV x)) w2 := by simpa using W2.1
  go_wp2_with fail
  refine (Tryz.Builder_String_k _ _ (prV x) _ W2b HPL.out.2).mono ?_;rintro e w4 ⟨rfl, _, hb4, _⟩;go_wp2_with fail
  go_ret
  exact ⟨ret_str (a := prV x) (by rw [printB, if_pos HR.out]), (hb3.trans (W2.2.1.mono hsz)).trans (hb4.mono hsz)⟩
end Go.Proofs.YtcmlojigcgihbaaGreatDoor
