/-
  The two writers and the reader of strings.Builder, embedded in printer's writer, over this program (its copyCheck is cut short by the loader, so the shelf's own contracts are not laid): what is held grows by what is written; what lay below, and every block that is no row of bytes, stands.
-/
import Derived.Test.YtgjemmdhamkngaaGreatDoorJ03
import Derived.Test.YtgjemmdhamkngaaGreatDoorJ05
import Derived.Test.YtgjemmdhamkngaaGreatDoorJ02
import Derived.Test.YtgjemmdhamkngaaGreatDoorJ04
import Derived.WalkKit
import Derived.WalkSpells
import Derived.Lib.FrozenHead2
import Derived.Lib.OthersKept
import Derived.Deep.RegionHeld3
namespace Go.Proofs.YtgjemmdhamkngaaGreatDoor.pw
open Go.RowKit

theorem infoBuilder : (Tryz.prog.info? 106).map (fun i => i.size) = some 2 := by kernel_rfl
theorem infoByte : (Tryz.prog.info? 5).map (fun i => (i.zero, i.size, i.bytes)) = some (some (.int .u8 0), 1, 1) := by kernel_rfl

set_option maxHeartbeats 1000000 in
set_option maxRecDepth 100000 in
theorem copyCheck_used (b : Nat) (w : World) (h0 : w.cell? ⟨b, 0, none⟩ = some (.pointer (some ⟨b, 0, none⟩))) :
    Calls Tryz.prog 108 #[.pointer (some ⟨b, 0, none⟩)] w fun e w' => e = .returned (.tuple #[]) ∧ w = w' := by
  obtain ⟨j, hj, _⟩ := Option.map_eq_some_iff.1 infoBuilder
  go_enter Tryz.func108, Tryz.ntmps108
  go_wp2
  rw [Lib.run_neq_ptr_same w _ Tryz.underlying103 hj]
  go_wp2
  go_end0
  exact ⟨rfl, rfl⟩

set_option maxHeartbeats 1000000 in
set_option maxRecDepth 100000 in
theorem copyCheck_fresh (b : Nat) (w : World) (h0 : w.cell? ⟨b, 0, none⟩ = some (.pointer none)) (hsh : w.shape? b = some (108, 2)) (hfz : w.frozen? ⟨b, 0, none⟩ = false) :
    Calls Tryz.prog 108 #[.pointer (some ⟨b, 0, none⟩)] w fun e w' => e = .returned (.tuple #[]) ∧ w' = w.setCell ⟨b, 0, none⟩ (.pointer (some ⟨b, 0, none⟩)) := by
  obtain ⟨j, hj, hjs⟩ := Option.map_eq_some_iff.1 infoBuilder
  go_enter Tryz.func108, Tryz.ntmps108
  go_wp2
  rw [Lib.run_to_unsafe w ⟨b, 0, none⟩ Tryz.underlying103 Tryz.underlying133 hj (by rw [hjs]; decide) hsh (Nat.zero_lt_succ 1)]
  simp only [Result.andThen]
  rw [Oper.upon_value]
  go_wp2
  rw [run_callFunc_extern Tryz.func125 (by kernel_rfl) (by kernel_rfl) (by kernel_rfl) (e := Extern.AbiNoEscape.same) (by kernel_rfl), Lib.run_noEscape]
  simp only [Result.andThen]
  rw [Oper.upon_value]
  go_wp2
  rw [Lib.run_from_unsafe w ⟨b, 0, none⟩ Tryz.underlying133 Tryz.underlying103 hj hsh (by kernel_rfl)]
  simp only [Result.andThen]
  rw [Oper.upon_value]
  go_wp2
  go_end0
  exact ⟨rfl, rfl⟩

/-- The builder b (base B) holds 'bs', its own address laid; what lay below B and every other block that is no row of bytes stands. -/
def Wrote' (B b : Nat) (bs : List Value) (w w' : World) : Prop :=
  Lib.BuilderAtF 108 5 B b (.pointer (some ⟨b, 0, none⟩)) bs w' ∧ Below B w w' ∧ Lib.OthersKept 5 (some b) w w'

theorem copyCheck_any (B b : Nat) (bs : List Value) (w : World) (h : Lib.IsBuilderF 108 5 B b bs w) :
    Calls Tryz.prog 108 #[.pointer (some ⟨b, 0, none⟩)] w fun e w' => e = .returned (.tuple #[]) ∧ Wrote' B b bs w w' := by
  rcases h with h | h
  · exact (copyCheck_fresh b w h.cell0 h.shape h.frozen0).mono fun e w' ⟨he, hw⟩ => ⟨he, hw ▸ ⟨h.used _, (Below.refl B w).setCell (p := ⟨b, 0, none⟩) h.1 _, (Lib.OthersKept.refl _ _ w).setCell ⟨b, 0, none⟩ rfl _⟩⟩
  · exact (copyCheck_used b w h.cell0).mono fun e w' ⟨he, hw⟩ => ⟨he, hw ▸ ⟨h, Below.refl B _, Lib.OthersKept.refl _ _ _⟩⟩

/-- What both writers do behind copyCheck: the buffer has grown from v to v', the new one is stored. -/
theorem wrote_of {B b : Nat} {bs news : List Value} {v v' : Value} {w w1 w1' w2 : World} (hB : B ≤ b) (hBw : B ≤ w1.heap.size) (hbk : w1.heap[b]? = some (.cells #[.pointer (some ⟨b, 0, none⟩), v] 108 (0, 0)))
    (hown : w1'.ownsRowF B 5 1 v bs.length bs) (hne : v.ownBlock ≠ some b) (h1 : Below B w w1) (k1 : Lib.OthersKept 5 (some b) w w1) (hst : Below w1.heap.size w1 w1')
    (hown' : w2.ownsRowF B 5 1 v' (bs.length + news.length) (bs ++ news)) (hg : w1'.grownBy w2 v.ownBlock) :
    w2.heap[b]? = some (.cells #[.pointer (some ⟨b, 0, none⟩), v] 108 (0, 0)) ∧ Wrote' B b (bs ++ news) w (w2.setCell ⟨b, 1, none⟩ v') := by
  have hlt : b < w1.heap.size := (Array.getElem?_eq_some_iff.1 hbk).1
  have hs := hst.size
  have hb2 : w2.heap[b]? = some (.cells #[.pointer (some ⟨b, 0, none⟩), v] 108 (0, 0)) := by
    rw [hg.block b (by omega) (fun e => hne e.symm), hst.block b hlt]; exact hbk
  have kk : Lib.OthersKept 5 (some b) w w1' := fun k o hk hkb ho => by
    have := k1 k o hk hkb ho
    rw [hst.block k (Array.getElem?_eq_some_iff.1 this).1]; exact this
  refine ⟨hb2, Lib.BuilderAtF.put hB hb2 (bs' := bs ++ news) (by simpa using hown') (by decide), ?_, (kk.grown hg (Lib.ownsRowF_kind hown)).setCell ⟨b, 1, none⟩ rfl _⟩
  exact (((h1.trans (hst.mono hBw))).grown hg (by omega) (fun k hk => (hown.lt k hk).1)).setCell (p := ⟨b, 1, none⟩) hB _

set_option maxHeartbeats 2000000 in
set_option maxRecDepth 100000 in
theorem writeByte_any (B b : Nat) (bs : List Value) (c : Int) (w : World) (h : Lib.IsBuilderF 108 5 B b bs w) (hlen : bs.length + 1 ≤ 140737488355328) (hBw : B ≤ w.heap.size) :
    Calls Tryz.prog 86 #[.pointer (some ⟨b, 0, none⟩), .int .u8 c] w fun e w' => e = .returned .nilIface ∧ Wrote' B b (bs ++ [.int .u8 c]) w w' := by
  obtain ⟨i0, hi, hz0, hz1, hz2⟩ := info_parts infoByte
  go_enter Tryz.func86, Tryz.ntmps86
  go_wp2_with fail
  refine (copyCheck_any B b bs _ h).mono ?_
  rintro e w1 ⟨rfl, ⟨hB, v, hbk, hown, hne⟩, hb1, hk1⟩
  have hsz := hb1.size
  have c0 : w1.cell? ⟨b, 0, none⟩ = some (.pointer (some ⟨b, 0, none⟩)) := by rw [Lib.cell_of_heap hbk]; rfl
  have c1 : w1.cell? ⟨b, 1, none⟩ = some v := by rw [Lib.cell_of_heap hbk]; rfl
  go_wp2_with (at_builtin; refine wpList_append_ownF _ rfl _ _ 104 rfl B 5 i0 (.int .u8 0) 1 1 Tryz.underlying104 hi hz0 hz1 hz2 rfl (by decide) _ _ _ rfl (hown.alloc _) ⟨w1.heap.size, 0, none⟩ 1 1 [.int .u8 c] rfl rfl ?c1 ?c2 ?c3 ?c4 ?c5 ?_)
  case c1 =>
    intro j u hj
    match j, hj with
    | 0, hj => simp at hj; subst hj; simp [Addr.add]
  case c2 => intro u hu; simp at hu; subst hu; rfl
  case c3 => unfold maxLen; omega
  case c4 => omega
  case c5 => simp; omega
  intro v' w2 hown' hgrow _
  obtain ⟨hb2, hfin⟩ := wrote_of (news := [.int .u8 c]) hB (by omega) hbk (hown.alloc _) hne hb1 hk1 ((Below.refl _ w1).alloc (Nat.le_refl _) _) hown' hgrow
  have d1 : w2.cell? ⟨b, 1, none⟩ = some v := by rw [Lib.cell_of_heap hb2]; rfl
  have d0 : w2.cell? ⟨b, 0, none⟩ = some (.pointer (some ⟨b, 0, none⟩)) := by rw [Lib.cell_of_heap hb2]; rfl
  have f1 : w2.frozen? ⟨b, 1, none⟩ = false := Lib.frozen_of_heap hb2 1
  obtain ⟨g, n', cap, rfl⟩ : ∃ g n' cap, v' = .slice g n' cap := by
    rcases hown'.2 with ⟨hv, _⟩ | ⟨g, cap, cur, fz, hv, _⟩
    · exact ⟨_, _, _, hv⟩
    · exact ⟨_, _, _, hv⟩
  have HF := Lib.hid hfin; clear hfin
  go_wp2
  go_ret
  exact ⟨rfl, HF.out⟩

set_option maxHeartbeats 2000000 in
set_option maxRecDepth 100000 in
theorem writeString_any (B b : Nat) (bs : List Value) (s : ByteArray) (w : World) (h : Lib.IsBuilderF 108 5 B b bs w) (hlen : bs.length + s.size ≤ 140737488355328) (hBw : B ≤ w.heap.size) :
    Calls Tryz.prog 84 #[.pointer (some ⟨b, 0, none⟩), .string s] w fun e w' => e = .returned (.tuple #[.int .i64 s.size, .nilIface]) ∧ Wrote' B b (bs ++ Lib.strCells s) w w' := by
  obtain ⟨i0, hi, hz0, hz1, hz2⟩ := info_parts infoByte
  go_enter Tryz.func84, Tryz.ntmps84
  go_wp2_with fail
  refine (copyCheck_any B b bs _ h).mono ?_
  rintro e w1 ⟨rfl, ⟨hB, v, hbk, hown, hne⟩, hb1, hk1⟩
  have hsz := hb1.size
  have c0 : w1.cell? ⟨b, 0, none⟩ = some (.pointer (some ⟨b, 0, none⟩)) := by rw [Lib.cell_of_heap hbk]; rfl
  have c1 : w1.cell? ⟨b, 1, none⟩ = some v := by rw [Lib.cell_of_heap hbk]; rfl
  go_wp2_with (at_builtin; refine Lib.wpList_append_own_stringF _ rfl _ _ 104 9 rfl B 5 i0 Tryz.underlying104 Tryz.underlying9 hi hz0 hz1 hz2 _ _ _ rfl hown s rfl ?c3 ?c4 ?c5 ?_)
  case c3 => unfold maxLen; omega
  case c4 => omega
  case c5 => omega
  intro v' w2 hown' hgrow _
  obtain ⟨hb2, hfin⟩ := wrote_of (news := Lib.strCells s) hB (by omega) hbk hown hne hb1 hk1 (Below.refl _ w1) (by rw [Lib.strCells_length]; exact hown') hgrow
  have d1 : w2.cell? ⟨b, 1, none⟩ = some v := by rw [Lib.cell_of_heap hb2]; rfl
  have d0 : w2.cell? ⟨b, 0, none⟩ = some (.pointer (some ⟨b, 0, none⟩)) := by rw [Lib.cell_of_heap hb2]; rfl
  have f1 : w2.frozen? ⟨b, 1, none⟩ = false := Lib.frozen_of_heap hb2 1
  obtain ⟨g, n', cap, rfl⟩ : ∃ g n' cap, v' = .slice g n' cap := by
    rcases hown'.2 with ⟨hv, _⟩ | ⟨g, cap, cur, fz, hv, _⟩
    · exact ⟨_, _, _, hv⟩
    · exact ⟨_, _, _, hv⟩
  have HF := Lib.hid hfin; clear hfin
  go_wp2
  go_ret2
  exact ⟨rfl, HF.out⟩

/-- What is written: the builder at b (its base B) holds so many bytes more; what lay below B, and every other block that is no row of bytes, stands. -/
def Wrote (B b : Nat) (acc : List UInt8) (w w' : World) : Prop :=
  Lib.IsBuilderF 108 5 B b (Lib.byteCells acc) w' ∧ Below B w w' ∧ Lib.OthersKept 5 (some b) w w'

/-- The two writers, over bytes. -/
theorem wbyte (B b : Nat) (acc : List UInt8) (c : UInt8) (w : World) (h : Lib.IsBuilderF 108 5 B b (Lib.byteCells acc) w) (hl : acc.length + 1 ≤ 140737488355328) (hB : B ≤ w.heap.size) :
    Calls Tryz.prog 86 #[.pointer (some ⟨b, 0, none⟩), .int .u8 c.toNat] w fun e w' => e = .returned .nilIface ∧ Wrote B b (acc ++ [c]) w w' :=
  (writeByte_any B b _ _ w h (by simpa [Lib.byteCells_length] using hl) hB).mono fun e w' ⟨he, h1, h2, h3⟩ => ⟨he, Or.inr (by rw [Lib.byteCells_append]; exact h1), h2, h3⟩
theorem wstr (B b : Nat) (acc : List UInt8) (s : ByteArray) (w : World) (h : Lib.IsBuilderF 108 5 B b (Lib.byteCells acc) w) (hl : acc.length + s.size ≤ 140737488355328) (hB : B ≤ w.heap.size) :
    Calls Tryz.prog 84 #[.pointer (some ⟨b, 0, none⟩), .string s] w fun e w' => e = .returned (.tuple #[.int .i64 s.size, .nilIface]) ∧ Wrote B b (acc ++ s.data.toList) w w' :=
  (writeString_any B b _ _ w h (by simpa [Lib.byteCells_length] using hl) hB).mono fun e w' ⟨he, h1, h2, h3⟩ => ⟨he, Or.inr (by rw [Lib.byteCells_append, ← Lib.strCells_eq]; exact h1), h2, h3⟩

theorem Wrote.trans {B b : Nat} {acc acc' : List UInt8} {w w1 w2 : World} (h : Wrote B b acc w w1) (k : Wrote B b acc' w1 w2) : Wrote B b acc' w w2 :=
  ⟨k.1, h.2.1.trans k.2.1, h.2.2.trans k.2.2⟩
theorem Wrote.start {B b : Nat} {acc : List UInt8} {w w' : World} (h : Lib.IsBuilderF 108 5 B b (Lib.byteCells acc) w) (hB : B ≤ w.heap.size) (hs : Stands w w') : Wrote B b acc w w' :=
  ⟨builder_kept h hs.kept, Below.mono hs hB, hs.others _ _⟩
/-- A block of values stands behind what is written. -/
theorem Wrote.box {B b : Nat} {acc : List UInt8} {w w' : World} (h : Wrote B b acc w w') {k : Nat} {cs : Array Value} {t : TypeId} {fz : Nat × Nat} (ht : t ≠ 5) (hk : k ≠ b) (hb : w.heap[k]? = some (.cells cs t fz)) : w'.heap[k]? = some (.cells cs t fz) :=
  h.2.2 k _ hb (fun e => hk (Option.some.inj e)) (fun c f e => ht (by cases e; rfl))

theorem neByte : (108 : TypeId) ≠ 5 := by decide
theorem cellsByte : Tryz.prog.cellsOf 5 = 1 := by kernel_rfl
set_option maxHeartbeats 1000000 in
set_option maxRecDepth 100000 in
/-- What was written, handed over: some bytes. -/
theorem string_some (B b : Nat) (l : List UInt8) (w : World) (h : Lib.IsBuilderF 108 5 B b (Lib.byteCells l) w) (h0 : l ≠ []) :
    Calls Tryz.prog 76 #[.pointer (some ⟨b, 0, none⟩)] w fun e w' => e = .returned (.string ⟨l.toArray⟩) ∧ Below B w w' := by
  obtain ⟨p, hp, hAt⟩ : ∃ p, (p = .pointer none ∨ p = .pointer (some ⟨b, 0, none⟩)) ∧ Lib.BuilderAtF 108 5 B b p (Lib.byteCells l) w := by
    rcases h with h | h
    · exact ⟨_, .inl rfl, h⟩
    · exact ⟨_, .inr rfl, h⟩
  obtain ⟨hB, v, hbk, hown, hne⟩ := hAt
  have hl0 : l.length ≠ 0 := by simpa using h0
  rw [Lib.byteCells_length] at hown
  obtain ⟨g, cap, cur, fz, rfl, hbg, hg, hfz, hnc, hcm, hcs, htake⟩ : ∃ g cap cur fz, v = .slice (some ⟨g, 0, none⟩) l.length cap ∧ B ≤ g ∧ w.heap[g]? = some (.cells cur 5 fz) ∧ fz.2 ≤ l.length * 1 ∧ l.length ≤ cap ∧ cap ≤ maxLen ∧ cur.size = cap * 1 ∧ cur.toList.take (l.length * 1) = Lib.byteCells l := by
    rcases hown.2 with ⟨_, hz⟩ | ⟨g, cap, cur, fz, hv, r⟩
    · exact absurd hz hl0
    · exact ⟨g, cap, cur, fz, hv, r⟩
  have c1 : w.drew.cell? ⟨b, 1, none⟩ = some (.slice (some ⟨g, 0, none⟩) l.length cap) := by
    have : w.drew.heap[b]? = some (.cells #[p, .slice (some ⟨g, 0, none⟩) l.length cap] 108 (0, 0)) := hbk
    rw [Lib.cell_of_heap this]; rfl
  have hSD : (Builtin.unsafeSliceData_ #[104] 128 #[.slice (some ⟨g, 0, none⟩) l.length cap]).run Tryz.prog w.drew = .ok (.pointer (some ⟨g, 0, none⟩)) w.drew :=
    Lib.run_unsafeSliceData_row _ _ _ _ _ _ (by omega)
  have hUS : (Builtin.unsafeString_ #[128, 3] 9 #[.pointer (some ⟨g, 0, none⟩), .int .i64 l.length]).run Tryz.prog w.drew = .ok (.string ⟨l.toArray⟩) (w.drew.freeze ⟨g, 0, none⟩ l.length) := by
    refine Lib.run_unsafeString_row w.drew 128 3 9 5 Tryz.underlying128 cellsByte g cur.size (by have hg' : w.drew.heap[g]? = some (.cells cur 5 fz) := hg; simp [World.shape?, hg']) l h0 (by omega) (by unfold maxLen at hcm; omega) ?_
    intro j x hx
    have := hown.cells (g := g) rfl j (.int .u8 x.toNat) (by simp [Lib.byteCells, hx])
    exact this
  have HG := Lib.hid hbg
  clear hown hne htake hcs hnc hcm hfz hbg hbk hp
  have mixed : Tryz.prog.follows .mixedOrders = true := by kernel_rfl
  go_enter Tryz.func76, Tryz.ntmps76
  go_wp2
  go_region_o
  all_goals (go_wp2; go_ret; exact ⟨rfl, Lib.below_freeze (Below.drew (Below.refl B w)) (p := ⟨g, 0, none⟩) HG.out _⟩)

end Go.Proofs.YtgjemmdhamkngaaGreatDoor.pw

/-
  printer's writer: lists and atoms, whose elements a closure tells.
-/
namespace Go.Proofs.YtgjemmdhamkngaaGreatDoor
open Go.RowKit

/-- Behind what has been written since w0, the closure F (over q1, q2) writes the i-th text. -/
def TellsAt (F : Nat) (q1 q2 : Value) (B b : Nat) (w0 : World) (L : List (List UInt8)) : Prop :=
  ∀ (i : Nat) (hi : i < L.length) (acc : List UInt8) (w : World), pw.Wrote B b acc w0 w → acc.length + L[i].length ≤ 140737488355328 →
    Calls Tryz.prog F #[.int .i64 i, q1, q2] w fun e w' => e = .returned (.tuple #[]) ∧ pw.Wrote B b (acc ++ L[i]) w w'

theorem size_list (s : ByteArray) : s.data.toList.length = s.size := by simp

set_option maxRecDepth 100000 in
set_option maxHeartbeats 2000000 in
theorem wlist_any (F : Nat) (q1 q2 : Value) (B b : Nat) (acc : List UInt8) (w : World) (sep : ByteArray) (L : List (List UInt8)) (hen : ∀ args w, Sem.run Tryz.prog (callFunc F args) w = .ok (.enter F args) w) (hB : B ≤ w.heap.size)
    (hbu : Lib.IsBuilderF 108 5 B b (Lib.byteCells acc) w) (hlen : acc.length + (sepL sep.data.toList L).length ≤ 140737488355328) (hn : L.length ≤ 140737488355328) (tells : TellsAt F q1 q2 B b w L) :
    Calls Tryz.prog 88 #[.pointer (some ⟨b, 0, none⟩), .int .i64 L.length, .string sep, .func (.func F) #[] #[q1, q2]] w fun e w' => e = .returned (.tuple #[]) ∧ pw.Wrote B b (acc ++ sepL sep.data.toList L) w w' := by
  have W0 := Lib.hid (pw.Wrote.start hbu hB (Below.refl _ w))
  have HT := Lib.hid tells; have HE := Lib.hid hen; have HLEN := Lib.hid hlen
  clear hbu tells hen hlen
  go_enter Tryz.func88, Tryz.ntmps88
  go_wp2_with fail
  go_loopw [10, 8] (fun i _ wx => ∃ k : Nat, k ≤ L.length ∧ i = .int .i64 k ∧ Hid (pw.Wrote B b (acc ++ sepL sep.data.toList (L.take k)) w wx)) (fun i _ _ => L.length - (intOf i).toNat)
  case atStart => exact ⟨0, Nat.zero_le _, rfl, by show pw.Wrote _ _ _ _ _; simpa [sepL] using W0.out⟩
  case round =>
    obtain ⟨k, hk, rfl, HW⟩ := hrel
    by_cases hl : k < L.length
    · have hts : L.take (k + 1) = L.take k ++ [L[k]] := List.take_succ_eq_append_getElem hl
      have hsn := sepL_snoc sep.data.toList (L.take k) L[k]
      have hle := sepL_take_le sep.data.toList L (k + 1)
      rw [hts, hsn] at hle
      have hw := HW.out
      have HX : Hid (sepL sep.data.toList (L.take (k + 1)) = sepL sep.data.toList (L.take k) ++ ((if L.take k = [] then [] else sep.data.toList) ++ L[k])) := by show _ = _; rw [hts, hsn]
      have HLE := Lib.hid hle
      have hne : ∀ args w, Sem.run Tryz.prog (callFunc F args) w = .ok (.enter F args) w := HE.out
      have hBx : B ≤ wr.heap.size := Nat.le_trans hB hw.2.1.size
      clear hts hsn hle hw
      by_cases h0 : k = 0
      · have HI : Hid ((if L.take k = [] then ([] : List UInt8) else sep.data.toList) = []) := by show _ = _; rw [if_pos (by simp [h0])]
        have h0' : decide (0 < (k : Int)) = false := by simp [h0]
        have h0n : decide (0 < k) = false := by simp [h0]
        clear h0
        go_wp2_with fail
        refine (HT.out k hl _ _ HW.out (by have h1 := HLE.out; have h2 := HLEN.out; simp only [List.length_append] at h1 ⊢; omega)).mono ?_
        rintro e w3 ⟨rfl, W3⟩
        have W4 := Lib.hid (HW.out.trans W3)
        clear W3
        go_wp2_with fail
        go_roundw
        case rel => exact ⟨k + 1, by omega, by go_num, by show pw.Wrote _ _ _ _ _; rw [HX.out, HI.out]; simpa [List.append_assoc] using W4.out⟩
        case measure => simp [intOf]; omega
      · have HI : Hid ((if L.take k = [] then ([] : List UInt8) else sep.data.toList) = sep.data.toList) := by show _ = _; rw [if_neg (by intro h; have := congrArg List.length h; rw [List.length_take, List.length_nil] at this; omega)]
        have h0' : decide (0 < (k : Int)) = true := by simp; omega
        have h0n : decide (0 < k) = true := by simp; omega
        clear h0
        go_wp2_with fail
        refine (pw.wstr B b _ sep _ HW.out.1 (by have h1 := HLE.out; have h2 := HLEN.out; rw [HI.out] at h1; rw [← size_list]; simp only [List.length_append] at h1 ⊢; omega) hBx).mono ?_
        rintro e w2 ⟨rfl, W2⟩
        have W2' := Lib.hid (HW.out.trans W2)
        clear W2
        go_wp2_with fail
        refine (HT.out k hl _ _ W2'.out (by have h1 := HLE.out; have h2 := HLEN.out; rw [HI.out] at h1; simp only [List.length_append] at h1 ⊢; omega)).mono ?_
        rintro e w3 ⟨rfl, W3⟩
        have W4 := Lib.hid (W2'.out.trans W3)
        clear W3
        go_wp2_with fail
        go_roundw
        case rel => exact ⟨k + 1, by omega, by go_num, by show pw.Wrote _ _ _ _ _; rw [HX.out, HI.out]; simpa [List.append_assoc] using W4.out⟩
        case measure => simp [intOf]; omega
    · have HF : Hid (L.take k = L) := List.take_of_length_le (by omega)
      rw [HF.out] at HW
      go_wp2_with fail
      go_end0
      exact ⟨rfl, HW.out⟩

set_option maxRecDepth 100000 in
set_option maxHeartbeats 2000000 in
theorem watom_any (F : Nat) (q1 q2 : Value) (B b : Nat) (acc : List UInt8) (w : World) (s : ByteArray) (L : List (List UInt8)) (hen : ∀ args w, Sem.run Tryz.prog (callFunc F args) w = .ok (.enter F args) w) (hB : B ≤ w.heap.size)
    (hbu : Lib.IsBuilderF 108 5 B b (Lib.byteCells acc) w) (hlen : acc.length + (showAtom s L).length ≤ 140737488355328) (hn : L.length ≤ 140737488355328) (tells : TellsAt F q1 q2 B b w L) :
    Calls Tryz.prog 82 #[.pointer (some ⟨b, 0, none⟩), .string s, .int .i64 L.length, .func (.func F) #[] #[q1, q2]] w fun e w' => e = .returned (.tuple #[]) ∧ pw.Wrote B b (acc ++ showAtom s L) w w' := by
  have HL : Hid (acc.length + s.size + 3 + (sepL [44] L).length ≤ 140737488355328) := by
    show _ ≤ _
    simp only [showAtom, List.length_append, List.length_cons, List.length_nil, size_list] at hlen
    omega
  have HBU := Lib.hid hbu; have HT := Lib.hid tells; have HE := Lib.hid hen
  clear hbu tells hen hlen
  go_enter Tryz.func82, Tryz.ntmps82
  go_wp2_with fail
  refine (pw.wstr B b acc s _ HBU.out (by have := HL.out; omega) hB).mono ?_
  rintro e w1 ⟨rfl, W1⟩
  have HW1 := Lib.hid W1; clear W1
  go_wp2_with fail
  refine (pw.wstr B b _ ⟨#[40, 64]⟩ _ HW1.out.1 (by have := HL.out; simp only [List.length_append, size_list]; show _ + 2 ≤ _; omega) (Nat.le_trans hB HW1.out.2.1.size)).mono ?_
  rintro e w2 ⟨rfl, W2⟩
  have HW2 := Lib.hid (HW1.out.trans W2); clear W2 HW1
  go_wp2_with fail
  refine (wlist_any F q1 q2 B b _ _ ⟨#[44]⟩ L HE.out (Nat.le_trans hB HW2.out.2.1.size) HW2.out.1 (by have := HL.out; simp only [List.length_append, size_list]; show _ + 2 + (sepL [44] L).length ≤ _; omega) hn (fun i hi a' w' hw hl => HT.out i hi a' w' (HW2.out.trans hw) hl)).mono ?_
  rintro e w3 ⟨rfl, W3⟩
  have HW3 := Lib.hid (HW2.out.trans W3); clear W3 HW2
  go_wp2_with fail
  refine (pw.wbyte B b _ 41 _ HW3.out.1 (by have := HL.out; simp only [List.length_append, size_list]; show _ + 2 + (sepL [44] L).length + 1 ≤ _; omega) (Nat.le_trans hB HW3.out.2.1.size)).mono ?_
  rintro e w4 ⟨rfl, W4⟩
  have HW4 := Lib.hid (HW3.out.trans W4); clear W4 HW3
  go_wp2_with fail
  go_end0
  refine ⟨rfl, ?_⟩
  have h := HW4.out
  simpa [showAtom, List.append_assoc] using h

end Go.Proofs.YtgjemmdhamkngaaGreatDoor

/-
  Terms, literals, rules, facts and relations in a variable of their own.
-/
namespace Go.Proofs.YtgjemmdhamkngaaGreatDoor
open Go.RowKit

theorem frozen_new {w : World} {k i : Nat} {cs : Array Value} {t : TypeId} (h : w.heap[k]? = some (.cells cs t (0, 0))) : w.frozen? ⟨k, i, none⟩ = false := frozen_of_row w k i cs t h

def BoxM (w : World) (k : Nat) (c0 c1 c2 c3 c4 c5 c6 : Value) : Prop := w.heap[k]? = some (.cells #[c0, c1, c2, c3, c4, c5, c6] 46 (0, 0))
theorem BoxM.cells {w : World} {k : Nat} {c0 c1 c2 c3 c4 c5 c6 : Value} (h : BoxM w k c0 c1 c2 c3 c4 c5 c6) : w.cell? ⟨k, 0, none⟩ = some c0 ∧ w.cell? ⟨k, 1, none⟩ = some c1 ∧ w.cell? ⟨k, 2, none⟩ = some c2 ∧ w.cell? ⟨k, 3, none⟩ = some c3 ∧ w.cell? ⟨k, 4, none⟩ = some c4 ∧ w.cell? ⟨k, 5, none⟩ = some c5 ∧ w.cell? ⟨k, 6, none⟩ = some c6 :=
  ⟨cell_of_block' h _ rfl, cell_of_block' h _ rfl, cell_of_block' h _ rfl, cell_of_block' h _ rfl, cell_of_block' h _ rfl, cell_of_block' h _ rfl, cell_of_block' h _ rfl⟩
theorem BoxM.lt {w : World} {k : Nat} {c0 c1 c2 c3 c4 c5 c6 : Value} (h : BoxM w k c0 c1 c2 c3 c4 c5 c6) : k < w.heap.size := (Array.getElem?_eq_some_iff.1 h).1
theorem BoxM.on {w w' : World} {k : Nat} {c0 c1 c2 c3 c4 c5 c6 : Value} (h : BoxM w k c0 c1 c2 c3 c4 c5 c6) (hb : Below w.heap.size w w') : BoxM w' k c0 c1 c2 c3 c4 c5 c6 := (hb.block k h.lt).trans h
theorem boxM_new (w : World) (c0 c1 c2 c3 c4 c5 c6 : Value) : BoxM (w.alloc (.cells #[c0, c1, c2, c3, c4, c5, c6] 46)) w.heap.size c0 c1 c2 c3 c4 c5 c6 := alloc_new' _ _

def BoxLi (w : World) (k : Nat) (c0 c1 c2 : Value) : Prop := w.heap[k]? = some (.cells #[c0, c1, c2] 41 (0, 0))
theorem BoxLi.cells {w : World} {k : Nat} {c0 c1 c2 : Value} (h : BoxLi w k c0 c1 c2) : w.cell? ⟨k, 0, none⟩ = some c0 ∧ w.cell? ⟨k, 1, none⟩ = some c1 ∧ w.cell? ⟨k, 2, none⟩ = some c2 :=
  ⟨cell_of_block' h _ rfl, cell_of_block' h _ rfl, cell_of_block' h _ rfl⟩
theorem BoxLi.lt {w : World} {k : Nat} {c0 c1 c2 : Value} (h : BoxLi w k c0 c1 c2) : k < w.heap.size := (Array.getElem?_eq_some_iff.1 h).1
theorem BoxLi.on {w w' : World} {k : Nat} {c0 c1 c2 : Value} (h : BoxLi w k c0 c1 c2) (hb : Below w.heap.size w w') : BoxLi w' k c0 c1 c2 := (hb.block k h.lt).trans h
theorem boxLi_new (w : World) (c0 c1 c2 : Value) : BoxLi (w.alloc (.cells #[c0, c1, c2] 41)) w.heap.size c0 c1 c2 := alloc_new' _ _

def BoxRu (w : World) (k : Nat) (c0 c1 c2 c3 c4 c5 : Value) : Prop := w.heap[k]? = some (.cells #[c0, c1, c2, c3, c4, c5] 37 (0, 0))
theorem BoxRu.cells {w : World} {k : Nat} {c0 c1 c2 c3 c4 c5 : Value} (h : BoxRu w k c0 c1 c2 c3 c4 c5) : w.cell? ⟨k, 0, none⟩ = some c0 ∧ w.cell? ⟨k, 1, none⟩ = some c1 ∧ w.cell? ⟨k, 2, none⟩ = some c2 ∧ w.cell? ⟨k, 3, none⟩ = some c3 ∧ w.cell? ⟨k, 4, none⟩ = some c4 ∧ w.cell? ⟨k, 5, none⟩ = some c5 :=
  ⟨cell_of_block' h _ rfl, cell_of_block' h _ rfl, cell_of_block' h _ rfl, cell_of_block' h _ rfl, cell_of_block' h _ rfl, cell_of_block' h _ rfl⟩
theorem BoxRu.lt {w : World} {k : Nat} {c0 c1 c2 c3 c4 c5 : Value} (h : BoxRu w k c0 c1 c2 c3 c4 c5) : k < w.heap.size := (Array.getElem?_eq_some_iff.1 h).1
theorem BoxRu.on {w w' : World} {k : Nat} {c0 c1 c2 c3 c4 c5 : Value} (h : BoxRu w k c0 c1 c2 c3 c4 c5) (hb : Below w.heap.size w w') : BoxRu w' k c0 c1 c2 c3 c4 c5 := (hb.block k h.lt).trans h
theorem boxRu_new (w : World) (c0 c1 c2 c3 c4 c5 : Value) : BoxRu (w.alloc (.cells #[c0, c1, c2, c3, c4, c5] 37)) w.heap.size c0 c1 c2 c3 c4 c5 := alloc_new' _ _

def BoxDe (w : World) (k : Nat) (c0 c1 : Value) : Prop := w.heap[k]? = some (.cells #[c0, c1] 57 (0, 0))
theorem BoxDe.cells {w : World} {k : Nat} {c0 c1 : Value} (h : BoxDe w k c0 c1) : w.cell? ⟨k, 0, none⟩ = some c0 ∧ w.cell? ⟨k, 1, none⟩ = some c1 :=
  ⟨cell_of_block' h _ rfl, cell_of_block' h _ rfl⟩
theorem BoxDe.lt {w : World} {k : Nat} {c0 c1 : Value} (h : BoxDe w k c0 c1) : k < w.heap.size := (Array.getElem?_eq_some_iff.1 h).1
theorem BoxDe.on {w w' : World} {k : Nat} {c0 c1 : Value} (h : BoxDe w k c0 c1) (hb : Below w.heap.size w w') : BoxDe w' k c0 c1 := (hb.block k h.lt).trans h
theorem boxDe_new (w : World) (c0 c1 : Value) : BoxDe (w.alloc (.cells #[c0, c1] 57)) w.heap.size c0 c1 := alloc_new' _ _

def BoxFa (w : World) (k : Nat) (c0 c1 : Value) : Prop := w.heap[k]? = some (.cells #[c0, c1] 33 (0, 0))
theorem BoxFa.cells {w : World} {k : Nat} {c0 c1 : Value} (h : BoxFa w k c0 c1) : w.cell? ⟨k, 0, none⟩ = some c0 ∧ w.cell? ⟨k, 1, none⟩ = some c1 :=
  ⟨cell_of_block' h _ rfl, cell_of_block' h _ rfl⟩
theorem BoxFa.lt {w : World} {k : Nat} {c0 c1 : Value} (h : BoxFa w k c0 c1) : k < w.heap.size := (Array.getElem?_eq_some_iff.1 h).1
theorem BoxFa.on {w w' : World} {k : Nat} {c0 c1 : Value} (h : BoxFa w k c0 c1) (hb : Below w.heap.size w w') : BoxFa w' k c0 c1 := (hb.block k h.lt).trans h
theorem boxFa_new (w : World) (c0 c1 : Value) : BoxFa (w.alloc (.cells #[c0, c1] 33)) w.heap.size c0 c1 := alloc_new' _ _

def BoxPr (w : World) (k : Nat) (c0 c1 c2 : Value) : Prop := w.heap[k]? = some (.cells #[c0, c1, c2] 26 (0, 0))
theorem BoxPr.cells {w : World} {k : Nat} {c0 c1 c2 : Value} (h : BoxPr w k c0 c1 c2) : w.cell? ⟨k, 0, none⟩ = some c0 ∧ w.cell? ⟨k, 1, none⟩ = some c1 ∧ w.cell? ⟨k, 2, none⟩ = some c2 :=
  ⟨cell_of_block' h _ rfl, cell_of_block' h _ rfl, cell_of_block' h _ rfl⟩
theorem BoxPr.lt {w : World} {k : Nat} {c0 c1 c2 : Value} (h : BoxPr w k c0 c1 c2) : k < w.heap.size := (Array.getElem?_eq_some_iff.1 h).1
theorem BoxPr.on {w w' : World} {k : Nat} {c0 c1 c2 : Value} (h : BoxPr w k c0 c1 c2) (hb : Below w.heap.size w w') : BoxPr w' k c0 c1 c2 := (hb.block k h.lt).trans h
theorem boxPr_new (w : World) (c0 c1 c2 : Value) : BoxPr (w.alloc (.cells #[c0, c1, c2] 26)) w.heap.size c0 c1 c2 := alloc_new' _ _


end Go.Proofs.YtgjemmdhamkngaaGreatDoor

/-
  printer's writer: a term.
-/
namespace Go.Proofs.YtgjemmdhamkngaaGreatDoor
open Go.RowKit

/-- What a term's writing comes to. -/
def WTermAt (t : Tm) : Prop := ∀ (S : Nat → Prop) (B b : Nat) (acc : List UInt8) (w : World) (c0 c1 c2 c3 c4 c5 c6 : Value), (∀ k, S k → k < B) → B ≤ w.heap.size → 0 < B → TabOk w → RepM S w t c0 c1 c2 c3 c4 c5 c6 →
  Lib.IsBuilderF 108 5 B b (Lib.byteCells acc) w → acc.length + (showM t).length ≤ 140737488355328 →
  Calls Tryz.prog 54 #[.pointer (some ⟨b, 0, none⟩), .agg #[c0, c1, c2, c3, c4, c5, c6]] w fun e w' => e = .returned (.tuple #[]) ∧ pw.Wrote B b (acc ++ showM t) w w'

theorem kept_drew {b : Nat} {w w' : World} (h : Lib.OthersKept 5 (some b) w w') : Lib.OthersKept 5 (some b) w w'.drew := h.drew
theorem wrote_drew {B b : Nat} {acc : List UInt8} {w : World} (hbu : Lib.IsBuilderF 108 5 B b (Lib.byteCells acc) w) (hB : B ≤ w.heap.size) : pw.Wrote B b acc w w.drew :=
  pw.Wrote.start hbu hB (Below.drew (Below.refl _ _))
/-- A block that is no row of bytes, and not the builder's, reads as it did. -/
theorem kept_cell {b k i : Nat} {w w' : World} (h : Lib.OthersKept 5 (some b) w w') {cs : Array Value} {t : TypeId} {fz : Nat × Nat} (hb : w.heap[k]? = some (.cells cs t fz)) (ht : t ≠ 5) (hk : k ≠ b) (v : Value) (hv : cs[i]? = some v) : w'.cell? ⟨k, i, none⟩ = some v :=
  cell_of_block' (h k _ hb (fun e => hk (Option.some.inj e)) (fun c f e => ht (by cases e; rfl))) v hv
theorem kept_block {b k : Nat} {w w' : World} (h : Lib.OthersKept 5 (some b) w w') {cs : Array Value} {t : TypeId} {fz : Nat × Nat} (hb : w.heap[k]? = some (.cells cs t fz)) (ht : t ≠ 5) (hk : k ≠ b) : w'.heap[k]? = some (.cells cs t fz) :=
  h k _ hb (fun e => hk (Option.some.inj e)) (fun c f e => ht (by cases e; rfl))
theorem kept_trans {b : Nat} {w w' w'' : World} (h : Lib.OthersKept 5 (some b) w w') (h' : Lib.OthersKept 5 (some b) w' w'') : Lib.OthersKept 5 (some b) w w'' := h.trans h'

set_option maxRecDepth 100000 in
set_option maxHeartbeats 2000000 in
theorem term1_tells (l : List Tm) (HH : ∀ x ∈ l, WTermAt x) (S : Nat → Prop) (B b p1 p2 : Nat) (ga : Option Addr) (gc : Nat) (w : World) (cs : Array Value) (hS : ∀ k, S k → k < B) (hB : B ≤ w.heap.size) (hg : 0 < B) (htab : TabOk w) (hl : RepMs S w l (.slice ga l.length gc))
    (h1 : w.heap[p1]? = some (.cells #[.pointer (some ⟨b, 0, none⟩)] 68 (0, 0))) (h2 : w.heap[p2]? = some (.cells cs 46 (0, 0))) (h3 : cs[6]? = some (.slice ga l.length gc)) (n1 : p1 ≠ b) (n2 : p2 ≠ b) :
    TellsAt 97 (.pointer (some ⟨p1, 0, none⟩)) (.pointer (some ⟨p2, 0, none⟩)) B b w (l.map showM) := by
  intro i hi acc wx hw hlen
  rw [List.length_map] at hi
  rw [List.getElem_map] at hlen ⊢
  have HA := Lib.hid (RepMs.on (fun _ h => h) (fun k hk => hw.2.1.block k (hS k hk)) hl : RepMs S wx l (.slice ga l.length gc))
  obtain ⟨-, hcap, lb, lo, ea, ec, ia, ic, rfl, hSb, g0, g1, g2, g3, g4, g5, g6, g⟩ := RepMs.at HA.out i hi
  have hbl : lb < B := hS lb hSb
  have HZ := Lib.hid (HH _ (List.getElem_mem hi))
  have G := Lib.hid g
  clear g HA
  generalize l[i] = z at *
  have HTX := Lib.hid (TabOk.below htab hg hw.2.1)
  have HBX := Lib.hid (Nat.le_trans hB hw.2.1.size)
  have HWX := Lib.hid hw
  have k1 := kept_block hw.2.2 h1 (by decide) n1
  have k2 := kept_block hw.2.2 h2 (by decide) n2
  have HS1 : Hid (∀ w', wx.heap.size ≤ w'.heap.size → Below B wx w' → Lib.OthersKept 5 (some b) wx w' → (w'.cell? ⟨p1, 0, none⟩ = some (.pointer (some ⟨b, 0, none⟩)) ∧ w'.cell? ⟨p2, 6, none⟩ = some (.slice (some ⟨lb, lo, none⟩) l.length gc) ∧ w'.cell? ⟨lb, lo + i * 7, none⟩ = some (.int .i64 z.kind) ∧ w'.cell? ⟨lb, lo + i * 7 + 1, none⟩ = some (.string z.name) ∧ w'.cell? ⟨lb, lo + i * 7 + 2, none⟩ = some (.int .i64 z.val.kind) ∧ w'.cell? ⟨lb, lo + i * 7 + 3, none⟩ = some (.int .i64 z.val.num) ∧ w'.cell? ⟨lb, lo + i * 7 + 4, none⟩ = some (.string z.val.text) ∧ w'.cell? ⟨lb, lo + i * 7 + 5, none⟩ = some (.slice ea z.val.list.length ec) ∧ w'.cell? ⟨lb, lo + i * 7 + 6, none⟩ = some (.slice ia z.args.length ic))) :=
    Lib.hid (fun w' _ hb hk => ⟨kept_cell hk k1 (by decide) n1 _ rfl, kept_cell hk k2 (by decide) n2 _ h3, (hb.cell (p := ⟨lb, lo + i * 7, none⟩) (by exact hbl)).trans g0, (hb.cell (p := ⟨lb, lo + i * 7 + 1, none⟩) (by exact hbl)).trans g1, (hb.cell (p := ⟨lb, lo + i * 7 + 2, none⟩) (by exact hbl)).trans g2, (hb.cell (p := ⟨lb, lo + i * 7 + 3, none⟩) (by exact hbl)).trans g3, (hb.cell (p := ⟨lb, lo + i * 7 + 4, none⟩) (by exact hbl)).trans g4, (hb.cell (p := ⟨lb, lo + i * 7 + 5, none⟩) (by exact hbl)).trans g5, (hb.cell (p := ⟨lb, lo + i * 7 + 6, none⟩) (by exact hbl)).trans g6⟩)
  have HL := Lib.hid hlen
  have hi0 : (0 : Int) ≤ (i : Int) := by omega
  have hi1 : (i : Int) < (l.length : Int) := by omega
  have c1 := cell_of_block' k1 (.pointer (some ⟨b, 0, none⟩)) (i := 0) rfl
  have c2 := cell_of_block' k2 _ h3
  have HK := Lib.hid (wrote_drew hw.1 HBX.out)
  clear hw hlen k1 k2
  go_enter Tryz.func97, Tryz.ntmps97
  go_wp2_with fail
  go_region_held3 (fun w' => w'.cell? ⟨p1, 0, none⟩ = some (.pointer (some ⟨b, 0, none⟩)) ∧ w'.cell? ⟨p2, 6, none⟩ = some (.slice (some ⟨lb, lo, none⟩) l.length gc) ∧ w'.cell? ⟨lb, lo + i * 7, none⟩ = some (.int .i64 z.kind) ∧ w'.cell? ⟨lb, lo + i * 7 + 1, none⟩ = some (.string z.name) ∧ w'.cell? ⟨lb, lo + i * 7 + 2, none⟩ = some (.int .i64 z.val.kind) ∧ w'.cell? ⟨lb, lo + i * 7 + 3, none⟩ = some (.int .i64 z.val.num) ∧ w'.cell? ⟨lb, lo + i * 7 + 4, none⟩ = some (.string z.val.text) ∧ w'.cell? ⟨lb, lo + i * 7 + 5, none⟩ = some (.slice ea z.val.list.length ec) ∧ w'.cell? ⟨lb, lo + i * 7 + 6, none⟩ = some (.slice ia z.args.length ic))
    (first | exact HS1.out _ HK.out.2.1.size HK.out.2.1 HK.out.2.2)
    (first | (go_at_call 54; refine (HZ.out S B b acc _ _ _ _ _ _ _ _ hS (Nat.le_trans HBX.out HK.out.2.1.size) hg (TabOk.below HTX.out hg HK.out.2.1) (RepM.on (fun _ h => h) (fun k hk => HK.out.2.1.block k (hS k hk)) _ G.out) HK.out.1 HL.out).mono ?_; rintro e w' ⟨rfl, W⟩; replace HK := Lib.hid (HK.out.trans W); clear W))
  go_wp2_with fail
  go_end0
  exact ⟨rfl, HK.out⟩

set_option maxRecDepth 100000 in
set_option maxHeartbeats 2000000 in
theorem literal1_tells (l : List Tm) (HH : ∀ x ∈ l, WTermAt x) (S : Nat → Prop) (B b p1 p2 : Nat) (ga : Option Addr) (gc : Nat) (w : World) (cs : Array Value) (hS : ∀ k, S k → k < B) (hB : B ≤ w.heap.size) (hg : 0 < B) (htab : TabOk w) (hl : RepMs S w l (.slice ga l.length gc))
    (h1 : w.heap[p1]? = some (.cells #[.pointer (some ⟨b, 0, none⟩)] 68 (0, 0))) (h2 : w.heap[p2]? = some (.cells cs 41 (0, 0))) (h3 : cs[2]? = some (.slice ga l.length gc)) (n1 : p1 ≠ b) (n2 : p2 ≠ b) :
    TellsAt 93 (.pointer (some ⟨p1, 0, none⟩)) (.pointer (some ⟨p2, 0, none⟩)) B b w (l.map showM) := by
  intro i hi acc wx hw hlen
  rw [List.length_map] at hi
  rw [List.getElem_map] at hlen ⊢
  have HA := Lib.hid (RepMs.on (fun _ h => h) (fun k hk => hw.2.1.block k (hS k hk)) hl : RepMs S wx l (.slice ga l.length gc))
  obtain ⟨-, hcap, lb, lo, ea, ec, ia, ic, rfl, hSb, g0, g1, g2, g3, g4, g5, g6, g⟩ := RepMs.at HA.out i hi
  have hbl : lb < B := hS lb hSb
  have HZ := Lib.hid (HH _ (List.getElem_mem hi))
  have G := Lib.hid g
  clear g HA
  generalize l[i] = z at *
  have HTX := Lib.hid (TabOk.below htab hg hw.2.1)
  have HBX := Lib.hid (Nat.le_trans hB hw.2.1.size)
  have HWX := Lib.hid hw
  have k1 := kept_block hw.2.2 h1 (by decide) n1
  have k2 := kept_block hw.2.2 h2 (by decide) n2
  have HS1 : Hid (∀ w', wx.heap.size ≤ w'.heap.size → Below B wx w' → Lib.OthersKept 5 (some b) wx w' → (w'.cell? ⟨p1, 0, none⟩ = some (.pointer (some ⟨b, 0, none⟩)) ∧ w'.cell? ⟨p2, 2, none⟩ = some (.slice (some ⟨lb, lo, none⟩) l.length gc) ∧ w'.cell? ⟨lb, lo + i * 7, none⟩ = some (.int .i64 z.kind) ∧ w'.cell? ⟨lb, lo + i * 7 + 1, none⟩ = some (.string z.name) ∧ w'.cell? ⟨lb, lo + i * 7 + 2, none⟩ = some (.int .i64 z.val.kind) ∧ w'.cell? ⟨lb, lo + i * 7 + 3, none⟩ = some (.int .i64 z.val.num) ∧ w'.cell? ⟨lb, lo + i * 7 + 4, none⟩ = some (.string z.val.text) ∧ w'.cell? ⟨lb, lo + i * 7 + 5, none⟩ = some (.slice ea z.val.list.length ec) ∧ w'.cell? ⟨lb, lo + i * 7 + 6, none⟩ = some (.slice ia z.args.length ic))) :=
    Lib.hid (fun w' _ hb hk => ⟨kept_cell hk k1 (by decide) n1 _ rfl, kept_cell hk k2 (by decide) n2 _ h3, (hb.cell (p := ⟨lb, lo + i * 7, none⟩) (by exact hbl)).trans g0, (hb.cell (p := ⟨lb, lo + i * 7 + 1, none⟩) (by exact hbl)).trans g1, (hb.cell (p := ⟨lb, lo + i * 7 + 2, none⟩) (by exact hbl)).trans g2, (hb.cell (p := ⟨lb, lo + i * 7 + 3, none⟩) (by exact hbl)).trans g3, (hb.cell (p := ⟨lb, lo + i * 7 + 4, none⟩) (by exact hbl)).trans g4, (hb.cell (p := ⟨lb, lo + i * 7 + 5, none⟩) (by exact hbl)).trans g5, (hb.cell (p := ⟨lb, lo + i * 7 + 6, none⟩) (by exact hbl)).trans g6⟩)
  have HL := Lib.hid hlen
  have hi0 : (0 : Int) ≤ (i : Int) := by omega
  have hi1 : (i : Int) < (l.length : Int) := by omega
  have c1 := cell_of_block' k1 (.pointer (some ⟨b, 0, none⟩)) (i := 0) rfl
  have c2 := cell_of_block' k2 _ h3
  have HK := Lib.hid (wrote_drew hw.1 HBX.out)
  clear hw hlen k1 k2
  go_enter Tryz.func93, Tryz.ntmps93
  go_wp2_with fail
  go_region_held3 (fun w' => w'.cell? ⟨p1, 0, none⟩ = some (.pointer (some ⟨b, 0, none⟩)) ∧ w'.cell? ⟨p2, 2, none⟩ = some (.slice (some ⟨lb, lo, none⟩) l.length gc) ∧ w'.cell? ⟨lb, lo + i * 7, none⟩ = some (.int .i64 z.kind) ∧ w'.cell? ⟨lb, lo + i * 7 + 1, none⟩ = some (.string z.name) ∧ w'.cell? ⟨lb, lo + i * 7 + 2, none⟩ = some (.int .i64 z.val.kind) ∧ w'.cell? ⟨lb, lo + i * 7 + 3, none⟩ = some (.int .i64 z.val.num) ∧ w'.cell? ⟨lb, lo + i * 7 + 4, none⟩ = some (.string z.val.text) ∧ w'.cell? ⟨lb, lo + i * 7 + 5, none⟩ = some (.slice ea z.val.list.length ec) ∧ w'.cell? ⟨lb, lo + i * 7 + 6, none⟩ = some (.slice ia z.args.length ic))
    (first | exact HS1.out _ HK.out.2.1.size HK.out.2.1 HK.out.2.2)
    (first | (go_at_call 54; refine (HZ.out S B b acc _ _ _ _ _ _ _ _ hS (Nat.le_trans HBX.out HK.out.2.1.size) hg (TabOk.below HTX.out hg HK.out.2.1) (RepM.on (fun _ h => h) (fun k hk => HK.out.2.1.block k (hS k hk)) _ G.out) HK.out.1 HL.out).mono ?_; rintro e w' ⟨rfl, W⟩; replace HK := Lib.hid (HK.out.trans W); clear W))
  go_wp2_with fail
  go_end0
  exact ⟨rfl, HK.out⟩

theorem kinds_of (t : Tm) : showM t = if t.kind = 1 then t.name.data.toList
    else if t.kind = 2 then printB t.val
    else if t.kind = 3 then t.name.data.toList ++ (40 :: (sepL [44] (t.args.map showM) ++ [41]))
    else if t.kind = 4 then 40 :: (sepL t.name.data.toList (t.args.map showM) ++ [41])
    else [] := by cases t; exact showM_mk _ _ _ _

set_option maxRecDepth 100000 in
set_option maxHeartbeats 4000000 in
theorem wterm_of (t : Tm) (HH : ∀ x ∈ t.args, WTermAt x) : WTermAt t := by
  intro S B b acc w c0 c1 c2 c3 c4 c5 c6 hS hB hg htab ht hbu hlen
  have HV := Lib.hid ht.value; have HL := Lib.hid ht.lst; have HTB := Lib.hid htab; have HBU := Lib.hid hbu
  have HN : Hid (t.args.length ≤ 140737488355328) := by show _ ≤ _; have := SlG.bytes ht.lst; omega
  obtain ⟨fa, fc, ga, gc, rfl, rfl, rfl, rfl, rfl, rfl, rfl⟩ := ht.form
  have HF0 := Lib.hid (kinds_of t); have HLEN := Lib.hid hlen
  clear ht htab hbu hlen
  by_cases e1 : t.kind = 1
  · have HF : Hid (showM t = t.name.data.toList) := by show _ = _; rw [HF0.out, if_pos e1]
    have HLN : Hid (acc.length + t.name.size ≤ 140737488355328) := by show _ ≤ _; have h := HLEN.out; rw [HF.out, size_list] at h; exact h
    have k1 : (t.kind == 1) = true := by simp [e1]
    clear e1 HF0 HLEN
    go_enter Tryz.func54, Tryz.ntmps54
    go_wp2_with fail
    have q1 := alloc_new' w (.cells #[.pointer (some ⟨b, 0, none⟩)] 68)
    have s1 := World.size_alloc w (.cells #[.pointer (some ⟨b, 0, none⟩)] 68)
    have b1 := below_alloc w (.cells #[.pointer (some ⟨b, 0, none⟩)] 68)
    generalize w.alloc (.cells #[.pointer (some ⟨b, 0, none⟩)] 68) = w1 at *
    have q2 := alloc_new' w1 (.cells #[.int .i64 t.kind, .string t.name, .int .i64 t.val.kind, .int .i64 t.val.num, .string t.val.text, .slice fa t.val.list.length fc, .slice ga t.args.length gc] 46)
    have b2 := below_alloc w1 (.cells #[.int .i64 t.kind, .string t.name, .int .i64 t.val.kind, .int .i64 t.val.num, .string t.val.text, .slice fa t.val.list.length fc, .slice ga t.args.length gc] 46)
    generalize w1.alloc (.cells #[.int .i64 t.kind, .string t.name, .int .i64 t.val.kind, .int .i64 t.val.num, .string t.val.text, .slice fa t.val.list.length fc, .slice ga t.args.length gc] 46) = w2 at *
    rw [s1] at q2
    have Q1 := Lib.hid ((b2.block w.heap.size (by omega)).trans q1); have Q2 := Lib.hid q2
    have W2 := Lib.hid (pw.Wrote.start HBU.out hB (Below.step b1 b2))
    have N1 : Hid (w.heap.size ≠ b) := by show _ ≠ _; have := builder_lt HBU.out; omega
    have N2 : Hid (w.heap.size + 1 ≠ b) := by show _ ≠ _; have := builder_lt HBU.out; omega
    have HWB := Lib.hid (Below.step b1 b2)
    clear q1 q2 b1 b2 s1
    generalize hpb : w.heap.size = pb at Q1 Q2 N1 N2 ⊢
    clear hpb
    have HW : Hid (pw.Wrote B b acc w2 w2) := Lib.hid ⟨W2.out.1, Below.refl _ _, Lib.OthersKept.refl _ _ _⟩
    have QK1 := Lib.hid (kept_block HW.out.2.2 Q1.out (by decide) N1.out); have QK2 := Lib.hid (kept_block HW.out.2.2 Q2.out (by decide) N2.out)
    have HK := Lib.hid (wrote_drew HW.out.1 (Nat.le_trans hB HWB.out.size))
    go_region_held3 (fun w' => w'.cell? ⟨pb, 0, none⟩ = some (.pointer (some ⟨b, 0, none⟩)) ∧ w'.cell? ⟨pb + 1, 0, none⟩ = some (.int .i64 t.kind) ∧ w'.cell? ⟨pb + 1, 1, none⟩ = some (.string t.name) ∧ w'.cell? ⟨pb + 1, 2, none⟩ = some (.int .i64 t.val.kind) ∧ w'.cell? ⟨pb + 1, 3, none⟩ = some (.int .i64 t.val.num) ∧ w'.cell? ⟨pb + 1, 4, none⟩ = some (.string t.val.text) ∧ w'.cell? ⟨pb + 1, 5, none⟩ = some (.slice fa t.val.list.length fc) ∧ w'.cell? ⟨pb + 1, 6, none⟩ = some (.slice ga t.args.length gc))
      (first | exact ⟨kept_cell HK.out.2.2 QK1.out (by decide) N1.out _ rfl, kept_cell HK.out.2.2 QK2.out (by decide) N2.out _ rfl, kept_cell HK.out.2.2 QK2.out (by decide) N2.out _ rfl, kept_cell HK.out.2.2 QK2.out (by decide) N2.out _ rfl, kept_cell HK.out.2.2 QK2.out (by decide) N2.out _ rfl, kept_cell HK.out.2.2 QK2.out (by decide) N2.out _ rfl, kept_cell HK.out.2.2 QK2.out (by decide) N2.out _ rfl, kept_cell HK.out.2.2 QK2.out (by decide) N2.out _ rfl⟩)
      (first
        | (go_at_call 84; refine (pw.wstr B b _ t.name _ HK.out.1 (HLN.out) (Nat.le_trans (Nat.le_trans hB HWB.out.size) HK.out.2.1.size)).mono ?_; rintro e w' ⟨rfl, W⟩; replace HK := Lib.hid (HK.out.trans W); clear W))
    go_wp2_with fail
    go_end0
    refine ⟨rfl, ?_⟩
    rw [HF.out]
    exact W2.out.trans HK.out
  have k1 : (t.kind == 1) = false := by simp [e1]
  by_cases e2 : t.kind = 2
  · have HF : Hid (showM t = printB t.val) := by show _ = _; rw [HF0.out, if_neg e1, if_pos e2]
    have HLN : Hid (acc.length + (printB t.val).length ≤ 140737488355328) := by show _ ≤ _; have h := HLEN.out; rw [HF.out] at h; exact h
    have k2 : (t.kind == 2) = true := by simp [e2]
    clear e1 e2 HF0 HLEN
    go_enter Tryz.func54, Tryz.ntmps54
    go_wp2_with fail
    have q1 := alloc_new' w (.cells #[.pointer (some ⟨b, 0, none⟩)] 68)
    have s1 := World.size_alloc w (.cells #[.pointer (some ⟨b, 0, none⟩)] 68)
    have b1 := below_alloc w (.cells #[.pointer (some ⟨b, 0, none⟩)] 68)
    generalize w.alloc (.cells #[.pointer (some ⟨b, 0, none⟩)] 68) = w1 at *
    have q2 := alloc_new' w1 (.cells #[.int .i64 t.kind, .string t.name, .int .i64 t.val.kind, .int .i64 t.val.num, .string t.val.text, .slice fa t.val.list.length fc, .slice ga t.args.length gc] 46)
    have b2 := below_alloc w1 (.cells #[.int .i64 t.kind, .string t.name, .int .i64 t.val.kind, .int .i64 t.val.num, .string t.val.text, .slice fa t.val.list.length fc, .slice ga t.args.length gc] 46)
    generalize w1.alloc (.cells #[.int .i64 t.kind, .string t.name, .int .i64 t.val.kind, .int .i64 t.val.num, .string t.val.text, .slice fa t.val.list.length fc, .slice ga t.args.length gc] 46) = w2 at *
    rw [s1] at q2
    have Q1 := Lib.hid ((b2.block w.heap.size (by omega)).trans q1); have Q2 := Lib.hid q2
    have W2 := Lib.hid (pw.Wrote.start HBU.out hB (Below.step b1 b2))
    have N1 : Hid (w.heap.size ≠ b) := by show _ ≠ _; have := builder_lt HBU.out; omega
    have N2 : Hid (w.heap.size + 1 ≠ b) := by show _ ≠ _; have := builder_lt HBU.out; omega
    have HWB := Lib.hid (Below.step b1 b2)
    clear q1 q2 b1 b2 s1
    generalize hpb : w.heap.size = pb at Q1 Q2 N1 N2 ⊢
    clear hpb
    have HW : Hid (pw.Wrote B b acc w2 w2) := Lib.hid ⟨W2.out.1, Below.refl _ _, Lib.OthersKept.refl _ _ _⟩
    have QK1 := Lib.hid (kept_block HW.out.2.2 Q1.out (by decide) N1.out); have QK2 := Lib.hid (kept_block HW.out.2.2 Q2.out (by decide) N2.out)
    have HK := Lib.hid (wrote_drew HW.out.1 (Nat.le_trans hB HWB.out.size))
    go_region_held3 (fun w' => w'.cell? ⟨pb, 0, none⟩ = some (.pointer (some ⟨b, 0, none⟩)) ∧ w'.cell? ⟨pb + 1, 0, none⟩ = some (.int .i64 t.kind) ∧ w'.cell? ⟨pb + 1, 1, none⟩ = some (.string t.name) ∧ w'.cell? ⟨pb + 1, 2, none⟩ = some (.int .i64 t.val.kind) ∧ w'.cell? ⟨pb + 1, 3, none⟩ = some (.int .i64 t.val.num) ∧ w'.cell? ⟨pb + 1, 4, none⟩ = some (.string t.val.text) ∧ w'.cell? ⟨pb + 1, 5, none⟩ = some (.slice fa t.val.list.length fc) ∧ w'.cell? ⟨pb + 1, 6, none⟩ = some (.slice ga t.args.length gc))
      (first | exact ⟨kept_cell HK.out.2.2 QK1.out (by decide) N1.out _ rfl, kept_cell HK.out.2.2 QK2.out (by decide) N2.out _ rfl, kept_cell HK.out.2.2 QK2.out (by decide) N2.out _ rfl, kept_cell HK.out.2.2 QK2.out (by decide) N2.out _ rfl, kept_cell HK.out.2.2 QK2.out (by decide) N2.out _ rfl, kept_cell HK.out.2.2 QK2.out (by decide) N2.out _ rfl, kept_cell HK.out.2.2 QK2.out (by decide) N2.out _ rfl, kept_cell HK.out.2.2 QK2.out (by decide) N2.out _ rfl⟩)
      (first
        | (go_at_call 85; refine (print_any t.val B _ _ _ _ _ (Nat.le_trans (Nat.le_trans hB HWB.out.size) HK.out.2.1.size) (Nat.lt_of_lt_of_le hg (Nat.le_trans (Nat.le_trans hB HWB.out.size) HK.out.2.1.size)) (TabOk.below HTB.out hg ((HWB.out.mono hB).trans HK.out.2.1)) (RepG.on hS (fun k hk => ((HWB.out.mono hB).trans HK.out.2.1).block k (hS k hk)) t.val HV.out)).mono ?_; rintro e w' ⟨rfl, hb⟩; replace HK := Lib.hid (HK.out.trans (pw.Wrote.start HK.out.1 (Nat.le_trans (Nat.le_trans hB HWB.out.size) HK.out.2.1.size) hb)); clear hb)
        | (go_at_call 84; refine (pw.wstr B b _ ⟨(printB t.val).toArray⟩ _ HK.out.1 (by rw [size_mk]; exact HLN.out) (Nat.le_trans (Nat.le_trans hB HWB.out.size) HK.out.2.1.size)).mono ?_; rintro e w' ⟨rfl, W⟩; replace HK := Lib.hid (HK.out.trans W); clear W))
    go_wp2_with fail
    go_end0
    refine ⟨rfl, ?_⟩
    rw [HF.out]
    exact W2.out.trans HK.out
  have k2 : (t.kind == 2) = false := by simp [e2]
  by_cases e3 : t.kind = 3
  · have HF : Hid (showM t = t.name.data.toList ++ (40 :: (sepL [44] (t.args.map showM) ++ [41]))) := by show _ = _; rw [HF0.out, if_neg e1, if_neg e2, if_pos e3]
    have HLN : Hid (acc.length + t.name.size + 2 + (sepL [44] (t.args.map showM)).length ≤ 140737488355328) := by show _ ≤ _; have h := HLEN.out; rw [HF.out] at h; simp only [List.length_append, List.length_cons, List.length_nil, size_list] at h; omega
    have k3 : (t.kind == 3) = true := by simp [e3]
    clear e1 e2 e3 HF0 HLEN
    go_enter Tryz.func54, Tryz.ntmps54
    go_wp2_with fail
    have q1 := alloc_new' w (.cells #[.pointer (some ⟨b, 0, none⟩)] 68)
    have s1 := World.size_alloc w (.cells #[.pointer (some ⟨b, 0, none⟩)] 68)
    have b1 := below_alloc w (.cells #[.pointer (some ⟨b, 0, none⟩)] 68)
    generalize w.alloc (.cells #[.pointer (some ⟨b, 0, none⟩)] 68) = w1 at *
    have q2 := alloc_new' w1 (.cells #[.int .i64 t.kind, .string t.name, .int .i64 t.val.kind, .int .i64 t.val.num, .string t.val.text, .slice fa t.val.list.length fc, .slice ga t.args.length gc] 46)
    have b2 := below_alloc w1 (.cells #[.int .i64 t.kind, .string t.name, .int .i64 t.val.kind, .int .i64 t.val.num, .string t.val.text, .slice fa t.val.list.length fc, .slice ga t.args.length gc] 46)
    generalize w1.alloc (.cells #[.int .i64 t.kind, .string t.name, .int .i64 t.val.kind, .int .i64 t.val.num, .string t.val.text, .slice fa t.val.list.length fc, .slice ga t.args.length gc] 46) = w2 at *
    rw [s1] at q2
    have Q1 := Lib.hid ((b2.block w.heap.size (by omega)).trans q1); have Q2 := Lib.hid q2
    have W2 := Lib.hid (pw.Wrote.start HBU.out hB (Below.step b1 b2))
    have N1 : Hid (w.heap.size ≠ b) := by show _ ≠ _; have := builder_lt HBU.out; omega
    have N2 : Hid (w.heap.size + 1 ≠ b) := by show _ ≠ _; have := builder_lt HBU.out; omega
    have HWB := Lib.hid (Below.step b1 b2)
    clear q1 q2 b1 b2 s1
    generalize hpb : w.heap.size = pb at Q1 Q2 N1 N2 ⊢
    clear hpb
    have HW : Hid (pw.Wrote B b acc w2 w2) := Lib.hid ⟨W2.out.1, Below.refl _ _, Lib.OthersKept.refl _ _ _⟩
    have QK1 := Lib.hid (kept_block HW.out.2.2 Q1.out (by decide) N1.out); have QK2 := Lib.hid (kept_block HW.out.2.2 Q2.out (by decide) N2.out)
    have HK := Lib.hid (wrote_drew HW.out.1 (Nat.le_trans hB HWB.out.size))
    go_region_held3 (fun w' => w'.cell? ⟨pb, 0, none⟩ = some (.pointer (some ⟨b, 0, none⟩)) ∧ w'.cell? ⟨pb + 1, 0, none⟩ = some (.int .i64 t.kind) ∧ w'.cell? ⟨pb + 1, 1, none⟩ = some (.string t.name) ∧ w'.cell? ⟨pb + 1, 2, none⟩ = some (.int .i64 t.val.kind) ∧ w'.cell? ⟨pb + 1, 3, none⟩ = some (.int .i64 t.val.num) ∧ w'.cell? ⟨pb + 1, 4, none⟩ = some (.string t.val.text) ∧ w'.cell? ⟨pb + 1, 5, none⟩ = some (.slice fa t.val.list.length fc) ∧ w'.cell? ⟨pb + 1, 6, none⟩ = some (.slice ga t.args.length gc))
      (first | exact ⟨kept_cell HK.out.2.2 QK1.out (by decide) N1.out _ rfl, kept_cell HK.out.2.2 QK2.out (by decide) N2.out _ rfl, kept_cell HK.out.2.2 QK2.out (by decide) N2.out _ rfl, kept_cell HK.out.2.2 QK2.out (by decide) N2.out _ rfl, kept_cell HK.out.2.2 QK2.out (by decide) N2.out _ rfl, kept_cell HK.out.2.2 QK2.out (by decide) N2.out _ rfl, kept_cell HK.out.2.2 QK2.out (by decide) N2.out _ rfl, kept_cell HK.out.2.2 QK2.out (by decide) N2.out _ rfl⟩)
      (first
        | (go_at_call 84; refine (pw.wstr B b _ t.name _ HK.out.1 (by have := HLN.out; omega) (Nat.le_trans (Nat.le_trans hB HWB.out.size) HK.out.2.1.size)).mono ?_; rintro e w' ⟨rfl, W⟩; replace HK := Lib.hid (HK.out.trans W); clear W))
    replace HW := Lib.hid (HW.out.trans HK.out)
    clear HK QK1 QK2
    have c0 := kept_cell (i := 0) HW.out.2.2 Q1.out (by decide) N1.out _ rfl
    have d0 := kept_cell (i := 0) HW.out.2.2 Q2.out (by decide) N2.out _ rfl
    have d1 := kept_cell (i := 1) HW.out.2.2 Q2.out (by decide) N2.out _ rfl
    have d2 := kept_cell (i := 2) HW.out.2.2 Q2.out (by decide) N2.out _ rfl
    have d3 := kept_cell (i := 3) HW.out.2.2 Q2.out (by decide) N2.out _ rfl
    have d4 := kept_cell (i := 4) HW.out.2.2 Q2.out (by decide) N2.out _ rfl
    have d5 := kept_cell (i := 5) HW.out.2.2 Q2.out (by decide) N2.out _ rfl
    have d6 := kept_cell (i := 6) HW.out.2.2 Q2.out (by decide) N2.out _ rfl
    go_wp2_with fail
    refine (pw.wbyte B b _ 40 _ HW.out.1 (by have := HLN.out; simp only [List.length_append, size_list]; omega) (Nat.le_trans (Nat.le_trans hB HWB.out.size) HW.out.2.1.size)).mono ?_
    rintro e w4 ⟨rfl, W⟩
    replace HW := Lib.hid (HW.out.trans W); clear W
    clear c0 d0 d1 d2 d3 d4 d5 d6
    have c0 := kept_cell (i := 0) HW.out.2.2 Q1.out (by decide) N1.out _ rfl
    have d0 := kept_cell (i := 0) HW.out.2.2 Q2.out (by decide) N2.out _ rfl
    have d1 := kept_cell (i := 1) HW.out.2.2 Q2.out (by decide) N2.out _ rfl
    have d2 := kept_cell (i := 2) HW.out.2.2 Q2.out (by decide) N2.out _ rfl
    have d3 := kept_cell (i := 3) HW.out.2.2 Q2.out (by decide) N2.out _ rfl
    have d4 := kept_cell (i := 4) HW.out.2.2 Q2.out (by decide) N2.out _ rfl
    have d5 := kept_cell (i := 5) HW.out.2.2 Q2.out (by decide) N2.out _ rfl
    have d6 := kept_cell (i := 6) HW.out.2.2 Q2.out (by decide) N2.out _ rfl
    go_wp2_with fail
    have hx := wlist_any 97 (.pointer (some ⟨pb, 0, none⟩)) (.pointer (some ⟨pb + 1, 0, none⟩)) B b _ _ ⟨#[44]⟩ (t.args.map showM) (fun _ _ => by kernel_rfl) (Nat.le_trans (Nat.le_trans hB HWB.out.size) HW.out.2.1.size) HW.out.1 (by have := HLN.out; simp only [List.length_append, List.length_cons, List.length_nil, size_list]; show _ + 0 + 1 + (sepL [44] (t.args.map showM)).length ≤ _; omega) (by rw [List.length_map]; exact HN.out) (term1_tells t.args HH S B b pb (pb + 1) ga gc _ _ hS (Nat.le_trans (Nat.le_trans hB HWB.out.size) HW.out.2.1.size) hg (TabOk.below HTB.out hg ((HWB.out.mono hB).trans HW.out.2.1)) (RepMs.on (fun _ h => h) (fun k hk => ((HWB.out.mono hB).trans HW.out.2.1).block k (hS k hk)) HL.out) (kept_block HW.out.2.2 Q1.out (by decide) N1.out) (kept_block HW.out.2.2 Q2.out (by decide) N2.out) rfl N1.out N2.out)
    rw [List.length_map] at hx
    refine hx.mono ?_
    clear hx
    rintro e w5 ⟨rfl, W⟩
    replace HW := Lib.hid (HW.out.trans W); clear W
    clear c0 d0 d1 d2 d3 d4 d5 d6
    have c0 := kept_cell (i := 0) HW.out.2.2 Q1.out (by decide) N1.out _ rfl
    have d0 := kept_cell (i := 0) HW.out.2.2 Q2.out (by decide) N2.out _ rfl
    have d1 := kept_cell (i := 1) HW.out.2.2 Q2.out (by decide) N2.out _ rfl
    have d2 := kept_cell (i := 2) HW.out.2.2 Q2.out (by decide) N2.out _ rfl
    have d3 := kept_cell (i := 3) HW.out.2.2 Q2.out (by decide) N2.out _ rfl
    have d4 := kept_cell (i := 4) HW.out.2.2 Q2.out (by decide) N2.out _ rfl
    have d5 := kept_cell (i := 5) HW.out.2.2 Q2.out (by decide) N2.out _ rfl
    have d6 := kept_cell (i := 6) HW.out.2.2 Q2.out (by decide) N2.out _ rfl
    go_wp2_with fail
    refine (pw.wbyte B b _ 41 _ HW.out.1 (by have := HLN.out; simp only [List.length_append, List.length_cons, List.length_nil, size_list]; show _ + 0 + 1 + (sepL [44] (t.args.map showM)).length + 1 ≤ _; omega) (Nat.le_trans (Nat.le_trans hB HWB.out.size) HW.out.2.1.size)).mono ?_
    rintro e w6 ⟨rfl, W⟩
    replace HW := Lib.hid (HW.out.trans W); clear W
    clear c0 d0 d1 d2 d3 d4 d5 d6
    go_wp2_with fail
    go_end0
    refine ⟨rfl, ?_⟩
    rw [HF.out]
    have h := W2.out.trans HW.out
    simpa [List.append_assoc] using h
  have k3 : (t.kind == 3) = false := by simp [e3]
  by_cases e4 : t.kind = 4
  · have HF : Hid (showM t = 40 :: (sepL t.name.data.toList (t.args.map showM) ++ [41])) := by show _ = _; rw [HF0.out, if_neg e1, if_neg e2, if_neg e3, if_pos e4]
    have HLN : Hid (acc.length + 2 + (sepL t.name.data.toList (t.args.map showM)).length ≤ 140737488355328) := by show _ ≤ _; have h := HLEN.out; rw [HF.out] at h; simp only [List.length_append, List.length_cons, List.length_nil] at h; omega
    have k4 : (t.kind == 4) = true := by simp [e4]
    clear e1 e2 e3 e4 HF0 HLEN
    go_enter Tryz.func54, Tryz.ntmps54
    go_wp2_with fail
    have q1 := alloc_new' w (.cells #[.pointer (some ⟨b, 0, none⟩)] 68)
    have s1 := World.size_alloc w (.cells #[.pointer (some ⟨b, 0, none⟩)] 68)
    have b1 := below_alloc w (.cells #[.pointer (some ⟨b, 0, none⟩)] 68)
    generalize w.alloc (.cells #[.pointer (some ⟨b, 0, none⟩)] 68) = w1 at *
    have q2 := alloc_new' w1 (.cells #[.int .i64 t.kind, .string t.name, .int .i64 t.val.kind, .int .i64 t.val.num, .string t.val.text, .slice fa t.val.list.length fc, .slice ga t.args.length gc] 46)
    have b2 := below_alloc w1 (.cells #[.int .i64 t.kind, .string t.name, .int .i64 t.val.kind, .int .i64 t.val.num, .string t.val.text, .slice fa t.val.list.length fc, .slice ga t.args.length gc] 46)
    generalize w1.alloc (.cells #[.int .i64 t.kind, .string t.name, .int .i64 t.val.kind, .int .i64 t.val.num, .string t.val.text, .slice fa t.val.list.length fc, .slice ga t.args.length gc] 46) = w2 at *
    rw [s1] at q2
    have Q1 := Lib.hid ((b2.block w.heap.size (by omega)).trans q1); have Q2 := Lib.hid q2
    have W2 := Lib.hid (pw.Wrote.start HBU.out hB (Below.step b1 b2))
    have N1 : Hid (w.heap.size ≠ b) := by show _ ≠ _; have := builder_lt HBU.out; omega
    have N2 : Hid (w.heap.size + 1 ≠ b) := by show _ ≠ _; have := builder_lt HBU.out; omega
    have HWB := Lib.hid (Below.step b1 b2)
    clear q1 q2 b1 b2 s1
    generalize hpb : w.heap.size = pb at Q1 Q2 N1 N2 ⊢
    clear hpb
    have HW : Hid (pw.Wrote B b acc w2 w2) := Lib.hid ⟨W2.out.1, Below.refl _ _, Lib.OthersKept.refl _ _ _⟩
    refine (pw.wbyte B b _ 40 _ HW.out.1 (by have := HLN.out; omega) (Nat.le_trans (Nat.le_trans hB HWB.out.size) HW.out.2.1.size)).mono ?_
    rintro e w4 ⟨rfl, W⟩
    replace HW := Lib.hid (HW.out.trans W); clear W
    have c0 := kept_cell (i := 0) HW.out.2.2 Q1.out (by decide) N1.out _ rfl
    have d0 := kept_cell (i := 0) HW.out.2.2 Q2.out (by decide) N2.out _ rfl
    have d1 := kept_cell (i := 1) HW.out.2.2 Q2.out (by decide) N2.out _ rfl
    have d2 := kept_cell (i := 2) HW.out.2.2 Q2.out (by decide) N2.out _ rfl
    have d3 := kept_cell (i := 3) HW.out.2.2 Q2.out (by decide) N2.out _ rfl
    have d4 := kept_cell (i := 4) HW.out.2.2 Q2.out (by decide) N2.out _ rfl
    have d5 := kept_cell (i := 5) HW.out.2.2 Q2.out (by decide) N2.out _ rfl
    have d6 := kept_cell (i := 6) HW.out.2.2 Q2.out (by decide) N2.out _ rfl
    go_wp2_with fail
    have hx := wlist_any 97 (.pointer (some ⟨pb, 0, none⟩)) (.pointer (some ⟨pb + 1, 0, none⟩)) B b _ _ t.name (t.args.map showM) (fun _ _ => by kernel_rfl) (Nat.le_trans (Nat.le_trans hB HWB.out.size) HW.out.2.1.size) HW.out.1 (by have := HLN.out; simp only [List.length_append, List.length_cons, List.length_nil]; omega) (by rw [List.length_map]; exact HN.out) (term1_tells t.args HH S B b pb (pb + 1) ga gc _ _ hS (Nat.le_trans (Nat.le_trans hB HWB.out.size) HW.out.2.1.size) hg (TabOk.below HTB.out hg ((HWB.out.mono hB).trans HW.out.2.1)) (RepMs.on (fun _ h => h) (fun k hk => ((HWB.out.mono hB).trans HW.out.2.1).block k (hS k hk)) HL.out) (kept_block HW.out.2.2 Q1.out (by decide) N1.out) (kept_block HW.out.2.2 Q2.out (by decide) N2.out) rfl N1.out N2.out)
    rw [List.length_map] at hx
    refine hx.mono ?_
    clear hx
    rintro e w5 ⟨rfl, W⟩
    replace HW := Lib.hid (HW.out.trans W); clear W
    clear c0 d0 d1 d2 d3 d4 d5 d6
    have c0 := kept_cell (i := 0) HW.out.2.2 Q1.out (by decide) N1.out _ rfl
    have d0 := kept_cell (i := 0) HW.out.2.2 Q2.out (by decide) N2.out _ rfl
    have d1 := kept_cell (i := 1) HW.out.2.2 Q2.out (by decide) N2.out _ rfl
    have d2 := kept_cell (i := 2) HW.out.2.2 Q2.out (by decide) N2.out _ rfl
    have d3 := kept_cell (i := 3) HW.out.2.2 Q2.out (by decide) N2.out _ rfl
    have d4 := kept_cell (i := 4) HW.out.2.2 Q2.out (by decide) N2.out _ rfl
    have d5 := kept_cell (i := 5) HW.out.2.2 Q2.out (by decide) N2.out _ rfl
    have d6 := kept_cell (i := 6) HW.out.2.2 Q2.out (by decide) N2.out _ rfl
    go_wp2_with fail
    refine (pw.wbyte B b _ 41 _ HW.out.1 (by have := HLN.out; simp only [List.length_append, List.length_cons, List.length_nil]; omega) (Nat.le_trans (Nat.le_trans hB HWB.out.size) HW.out.2.1.size)).mono ?_
    rintro e w6 ⟨rfl, W⟩
    replace HW := Lib.hid (HW.out.trans W); clear W
    clear c0 d0 d1 d2 d3 d4 d5 d6
    go_wp2_with fail
    go_end0
    refine ⟨rfl, ?_⟩
    rw [HF.out]
    have h := W2.out.trans HW.out
    simpa [List.append_assoc] using h
  have k4 : (t.kind == 4) = false := by simp [e4]
  have HF : Hid (showM t = []) := by show _ = _; rw [HF0.out, if_neg e1, if_neg e2, if_neg e3, if_neg e4]
  clear e1 e2 e3 e4 HF0 HLEN
  go_enter Tryz.func54, Tryz.ntmps54
  go_wp2_with fail
  have q1 := alloc_new' w (.cells #[.pointer (some ⟨b, 0, none⟩)] 68)
  have s1 := World.size_alloc w (.cells #[.pointer (some ⟨b, 0, none⟩)] 68)
  have b1 := below_alloc w (.cells #[.pointer (some ⟨b, 0, none⟩)] 68)
  generalize w.alloc (.cells #[.pointer (some ⟨b, 0, none⟩)] 68) = w1 at *
  have q2 := alloc_new' w1 (.cells #[.int .i64 t.kind, .string t.name, .int .i64 t.val.kind, .int .i64 t.val.num, .string t.val.text, .slice fa t.val.list.length fc, .slice ga t.args.length gc] 46)
  have b2 := below_alloc w1 (.cells #[.int .i64 t.kind, .string t.name, .int .i64 t.val.kind, .int .i64 t.val.num, .string t.val.text, .slice fa t.val.list.length fc, .slice ga t.args.length gc] 46)
  generalize w1.alloc (.cells #[.int .i64 t.kind, .string t.name, .int .i64 t.val.kind, .int .i64 t.val.num, .string t.val.text, .slice fa t.val.list.length fc, .slice ga t.args.length gc] 46) = w2 at *
  rw [s1] at q2
  have Q1 := Lib.hid ((b2.block w.heap.size (by omega)).trans q1); have Q2 := Lib.hid q2
  have W2 := Lib.hid (pw.Wrote.start HBU.out hB (Below.step b1 b2))
  have N1 : Hid (w.heap.size ≠ b) := by show _ ≠ _; have := builder_lt HBU.out; omega
  have N2 : Hid (w.heap.size + 1 ≠ b) := by show _ ≠ _; have := builder_lt HBU.out; omega
  have HWB := Lib.hid (Below.step b1 b2)
  clear q1 q2 b1 b2 s1
  go_end0
  refine ⟨rfl, ?_⟩
  rw [HF.out, List.append_nil]
  exact W2.out

theorem wterm_any (t : Tm) : WTermAt t := by
  cases t with
  | mk k s x l => exact wterm_of (.mk k s x l) (fun y hy => wterm_any y)
  termination_by SizeOf.sizeOf t
  decreasing_by
    have := List.sizeOf_lt_of_mem (show y ∈ l from hy)
    simp only [Tm.mk.sizeOf_spec]
    omega

end Go.Proofs.YtgjemmdhamkngaaGreatDoor
