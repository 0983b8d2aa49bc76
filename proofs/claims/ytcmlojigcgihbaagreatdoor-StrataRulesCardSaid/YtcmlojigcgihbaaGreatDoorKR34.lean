/-
  WBuilder, TermText, WList
-/
import Derived.Test.YtcmlojigcgihbaaGreatDoorKR33
import Derived.Test.YtcmlojigcgihbaaGreatDoorKR03
import Derived.WalkKit
import Derived.WalkSpells
import Derived.Lib.FrozenHead2
import Derived.Lib.OthersKept
namespace Go.Proofs.YtcmlojigcgihbaaGreatDoor.pw
open Go.RowKit
theorem infoBuilder : (Tryz.prog.info? 147).map (fun i => i.size) = some 2 := by kernel_rfl
theorem infoByte : (Tryz.prog.info? 5).map (fun i => (i.zero, i.size, i.bytes)) = some (some (.int .u8 0), 1, 1) := by kernel_rfl
set_option maxHeartbeats 1000000 in
set_option maxRecDepth 100000 in
theorem copyCheck_used (b : Nat) (w : World) (h0 : w.cell? ⟨b, 0, none⟩ = some (.pointer (some ⟨b, 0, none⟩))) :
  Calls Tryz.prog 142 #[.pointer (some ⟨b, 0, none⟩)] w fun e w' => e = .returned (.tuple #[]) ∧ w = w' := by
 obtain ⟨j, hj, _⟩ := Option.map_eq_some_iff.1 infoBuilder;go_enter Tryz.func142, Tryz.ntmps142
 go_wp2
 rw [Lib.run_neq_ptr_same w _ Tryz.underlying145 hj];go_wp2
 go_end0
 exact ⟨rfl, rfl⟩
set_option maxHeartbeats 1000000 in
set_option maxRecDepth 100000 in
theorem copyCheck_fresh (b : Nat) (w : World) (h0 : w.cell? ⟨b, 0, none⟩ = some (.pointer none)) (hsh : w.shape? b = some (149, 2)) (hfz : w.frozen? ⟨b, 0, none⟩ = false) :
  Calls Tryz.prog 142 #[.pointer (some ⟨b, 0, none⟩)] w fun e w' => e = .returned (.tuple #[]) ∧ w' = w.setCell ⟨b, 0, none⟩ (.pointer (some ⟨b, 0, none⟩)) := by
 obtain ⟨j, hj, hjs⟩ := Option.map_eq_some_iff.1 infoBuilder;go_enter Tryz.func142, Tryz.ntmps142
 go_wp2
 rw [Lib.run_to_unsafe w ⟨b, 0, none⟩ Tryz.underlying145 Tryz.underlying187 hj (by rw [hjs]; decide) hsh (Nat.zero_lt_succ 1)];simp only [Result.andThen]
 rw [Oper.upon_value];go_wp2
 rw [run_callFunc_extern Tryz.func162 (by kernel_rfl) (by kernel_rfl) (by kernel_rfl) (e := Extern.AbiNoEscape.same) (by kernel_rfl), Lib.run_noEscape];simp only [Result.andThen]
 rw [Oper.upon_value];go_wp2
 rw [Lib.run_from_unsafe w ⟨b, 0, none⟩ Tryz.underlying187 Tryz.underlying145 hj hsh (by kernel_rfl)];simp only [Result.andThen]
 rw [Oper.upon_value];go_wp2
 go_end0
 exact ⟨rfl, rfl⟩
def Wrote' (B b : Nat) (bs : List Value) (w w' : World) : Prop :=
 Lib.BuilderAtF 149 5 B b (.pointer (some ⟨b, 0, none⟩)) bs w' ∧ Below B w w' ∧ Lib.OthersKept 5 (some b) w w'
theorem copyCheck_any (B b : Nat) (bs : List Value) (w : World) (h : Lib.IsBuilderF 149 5 B b bs w) :
  Calls Tryz.prog 142 #[.pointer (some ⟨b, 0, none⟩)] w fun e w' => e = .returned (.tuple #[]) ∧ Wrote' B b bs w w' := by
 rcases h with h | h
 ·exact (copyCheck_fresh b w h.cell0 h.shape h.frozen0).mono fun e w' ⟨he, hw⟩ => ⟨he, hw ▸ ⟨h.used _, (Below.refl B w).setCell (p := ⟨b, 0, none⟩) h.1 _, (Lib.OthersKept.refl _ _ w).setCell ⟨b, 0, none⟩ rfl _⟩⟩
 ·exact (copyCheck_used b w h.cell0).mono fun e w' ⟨he, hw⟩ => ⟨he, hw ▸ ⟨h, Below.refl B _, Lib.OthersKept.refl _ _ _⟩⟩
theorem wrote_of {B b : Nat} {bs news : List Value} {v v' : Value} {w w1 w1' w2 : World} (hB : B ≤ b) (hBw : B ≤ w1.heap.size) (hbk : w1.heap[b]? = some (.cells #[.pointer (some ⟨b, 0, none⟩), v] 149 (0, 0)))
  (hown : w1'.ownsRowF B 5 1 v bs.length bs) (hne : v.ownBlock ≠ some b) (h1 : Below B w w1) (k1 : Lib.OthersKept 5 (some b) w w1) (hst : Below w1.heap.size w1 w1')
  (hown' : w2.ownsRowF B 5 1 v' (bs.length + news.length) (bs ++ news)) (hg : w1'.grownBy w2 v.ownBlock) :
  w2.heap[b]? = some (.cells #[.pointer (some ⟨b, 0, none⟩), v] 149 (0, 0)) ∧ Wrote' B b (bs ++ news) w (w2.setCell ⟨b, 1, none⟩ v') := by
 have hlt : b < w1.heap.size := (Array.getElem?_eq_some_iff.1 hbk).1;have hs := hst.size
 have hb2 : w2.heap[b]? = some (.cells #[.pointer (some ⟨b, 0, none⟩), v] 149 (0, 0)) := by
  rw [hg.block b (by omega) (fun e => hne e.symm), hst.block b hlt]; exact hbk
 have kk : Lib.OthersKept 5 (some b) w w1' := fun k o hk hkb ho => by
  have := k1 k o hk hkb ho;rw [hst.block k (Array.getElem?_eq_some_iff.1 this).1]; exact this
 refine ⟨hb2, Lib.BuilderAtF.put hB hb2 (bs' := bs ++ news) (by simpa using hown') (by decide), ?_, (kk.grown hg (Lib.ownsRowF_kind hown)).setCell ⟨b, 1, none⟩ rfl _⟩;exact (((h1.trans (hst.mono hBw))).grown hg (by omega) (fun k hk => (hown.lt k hk).1)).setCell (p := ⟨b, 1, none⟩) hB _
set_option maxHeartbeats 2000000 in
set_option maxRecDepth 100000 in
theorem writeByte_any (B b : Nat) (bs : List Value) (c : Int) (w : World) (h : Lib.IsBuilderF 149 5 B b bs w) (hlen : bs.length + 1 ≤ 140737488355328) (hBw : B ≤ w.heap.size) :
  Calls Tryz.prog 111 #[.pointer (some ⟨b, 0, none⟩), .int .u8 c] w fun e w' => e = .returned .nilIface ∧ Wrote' B b (bs ++ [.int .u8 c]) w w' := by
 obtain ⟨i0, hi, hz0, hz1, hz2⟩ := info_parts infoByte;go_enter Tryz.func111, Tryz.ntmps111
 go_wp2_with fail
 refine (copyCheck_any B b bs _ h).mono ?_;rintro e w1 ⟨rfl, ⟨hB, v, hbk, hown, hne⟩, hb1, hk1⟩;have hsz := hb1.size;have c0 : w1.cell? ⟨b, 0, none⟩ = some (.pointer (some ⟨b, 0, none⟩)) := by rw [Lib.cell_of_heap hbk]; rfl
 have c1 : w1.cell? ⟨b, 1, none⟩ = some v := by rw [Lib.cell_of_heap hbk]; rfl
 go_wp2_with (at_builtin; refine wpList_append_ownF _ rfl _ _ 92 rfl B 5 i0 (.int .u8 0) 1 1 Tryz.underlying92 hi hz0 hz1 hz2 rfl (by decide) _ _ _ rfl (hown.alloc _) ⟨w1.heap.size, 0, none⟩ 1 1 [.int .u8 c] rfl rfl ?c1 ?c2 ?c3 ?c4 ?c5 ?_)
 case c1 =>
  intro j u hj
  match j, hj with
  | 0, hj => simp at hj; subst hj; simp [Addr.add]
 case c2 => intro u hu; simp at hu; subst hu; rfl
 case c3 => unfold maxLen; omega
 case c4 => omega
 case c5 => simp; omega
 intro v' w2 hown' hgrow _;obtain ⟨hb2, hfin⟩ := wrote_of (news := [.int .u8 c]) hB (by omega) hbk (hown.alloc _) hne hb1 hk1 ((Below.refl _ w1).alloc (Nat.le_refl _) _) hown' hgrow;have d1 : w2.cell? ⟨b, 1, none⟩ = some v := by rw [Lib.cell_of_heap hb2]; rfl
 have d0 : w2.cell? ⟨b, 0, none⟩ = some (.pointer (some ⟨b, 0, none⟩)) := by rw [Lib.cell_of_heap hb2]; rfl
 have f1 : w2.frozen? ⟨b, 1, none⟩ = false := Lib.frozen_of_heap hb2 1
 obtain ⟨g, n', cap, rfl⟩ : ∃ g n' cap, v' = .slice g n' cap := by
  rcases hown'.2 with ⟨hv, _⟩ | ⟨g, cap, cur, fz, hv, _⟩
  ·exact ⟨_, _, _, hv⟩
  ·exact ⟨_, _, _, hv⟩
 have HF := Lib.hid hfin; clear hfin
 go_wp2
 go_ret
 exact ⟨rfl, HF.out⟩
set_option maxHeartbeats 2000000 in
set_option maxRecDepth 100000 in
theorem writeString_any (B b : Nat) (bs : List Value) (s : ByteArray) (w : World) (h : Lib.IsBuilderF 149 5 B b bs w) (hlen : bs.length + s.size ≤ 140737488355328) (hBw : B ≤ w.heap.size) :
  Calls Tryz.prog 110 #[.pointer (some ⟨b, 0, none⟩), .string s] w fun e w' => e = .returned (.tuple #[.int .i64 s.size, .nilIface]) ∧ Wrote' B b (bs ++ Lib.strCells s) w w' := by
 obtain ⟨i0, hi, hz0, hz1, hz2⟩ := info_parts infoByte;go_enter Tryz.func110, Tryz.ntmps110
 go_wp2_with fail
 refine (copyCheck_any B b bs _ h).mono ?_;rintro e w1 ⟨rfl, ⟨hB, v, hbk, hown, hne⟩, hb1, hk1⟩;have hsz := hb1.size;have c0 : w1.cell? ⟨b, 0, none⟩ = some (.pointer (some ⟨b, 0, none⟩)) := by rw [Lib.cell_of_heap hbk]; rfl
 have c1 : w1.cell? ⟨b, 1, none⟩ = some v := by rw [Lib.cell_of_heap hbk]; rfl
 go_wp2_with (at_builtin; refine Lib.wpList_append_own_stringF _ rfl _ _ 92 9 rfl B 5 i0 Tryz.underlying92 Tryz.underlying9 hi hz0 hz1 hz2 _ _ _ rfl hown s rfl ?c3 ?c4 ?c5 ?_)
 case c3 => unfold maxLen; omega
 case c4 => omega
 case c5 => omega
 intro v' w2 hown' hgrow _;obtain ⟨hb2, hfin⟩ := wrote_of (news := Lib.strCells s) hB (by omega) hbk hown hne hb1 hk1 (Below.refl _ w1) (by rw [Lib.strCells_length]; exact hown') hgrow;have d1 : w2.cell? ⟨b, 1, none⟩ = some v := by rw [Lib.cell_of_heap hb2]; rfl
 have d0 : w2.cell? ⟨b, 0, none⟩ = some (.pointer (some ⟨b, 0, none⟩)) := by rw [Lib.cell_of_heap hb2]; rfl
 have f1 : w2.frozen? ⟨b, 1, none⟩ = false := Lib.frozen_of_heap hb2 1
 obtain ⟨g, n', cap, rfl⟩ : ∃ g n' cap, v' = .slice g n' cap := by
  rcases hown'.2 with ⟨hv, _⟩ | ⟨g, cap, cur, fz, hv, _⟩
  ·exact ⟨_, _, _, hv⟩
  ·exact ⟨_, _, _, hv⟩
 have HF := Lib.hid hfin; clear hfin
 go_wp2
 go_ret2
 exact ⟨rfl, HF.out⟩
def Wrote (B b : Nat) (acc : List UInt8) (w w' : World) : Prop :=
 Lib.IsBuilderF 149 5 B b (Lib.byteCells acc) w' ∧ Below B w w' ∧ Lib.OthersKept 5 (some b) w w'
theorem wbyte (B b : Nat) (acc : List UInt8) (c : UInt8) (w : World) (h : Lib.IsBuilderF 149 5 B b (Lib.byteCells acc) w) (hl : acc.length + 1 ≤ 140737488355328) (hB : B ≤ w.heap.size) :
  Calls Tryz.prog 111 #[.pointer (some ⟨b, 0, none⟩), .int .u8 c.toNat] w fun e w' => e = .returned .nilIface ∧ Wrote B b (acc ++ [c]) w w' :=
 (writeByte_any B b _ _ w h (by simpa [Lib.byteCells_length] using hl) hB).mono fun e w' ⟨he, h1, h2, h3⟩ => ⟨he, Or.inr (by rw [Lib.byteCells_append]; exact h1), h2, h3⟩
theorem wstr (B b : Nat) (acc : List UInt8) (s : ByteArray) (w : World) (h : Lib.IsBuilderF 149 5 B b (Lib.byteCells acc) w) (hl : acc.length + s.size ≤ 140737488355328) (hB : B ≤ w.heap.size) :
  Calls Tryz.prog 110 #[.pointer (some ⟨b, 0, none⟩), .string s] w fun e w' => e = .returned (.tuple #[.int .i64 s.size, .nilIface]) ∧ Wrote B b (acc ++ s.data.toList) w w' :=
 (writeString_any B b _ _ w h (by simpa [Lib.byteCells_length] using hl) hB).mono fun e w' ⟨he, h1, h2, h3⟩ => ⟨he, Or.inr (by rw [Lib.byteCells_append, ← Lib.strCells_eq]; exact h1), h2, h3⟩
theorem Wrote.trans {B b : Nat} {acc acc' : List UInt8} {w w1 w2 : World} (h : Wrote B b acc w w1) (k : Wrote B b acc' w1 w2) : Wrote B b acc' w w2 :=
 ⟨k.1, h.2.1.trans k.2.1, h.2.2.trans k.2.2⟩
theorem Wrote.start {B b : Nat} {acc : List UInt8} {w w' : World} (h : Lib.IsBuilderF 149 5 B b (Lib.byteCells acc) w) (hB : B ≤ w.heap.size) (hs : Stands w w') : Wrote B b acc w w' :=
 ⟨builder_kept h hs.kept, Below.mono hs hB, hs.others _ _⟩
theorem cellsByte : Tryz.prog.cellsOf 5 = 1 := by kernel_rfl
set_option maxHeartbeats 1000000 in
set_option maxRecDepth 100000 in
theorem string_some (B b : Nat) (l : List UInt8) (w : World) (h : Lib.IsBuilderF 149 5 B b (Lib.byteCells l) w) (h0 : l ≠ []) :
  Calls Tryz.prog 104 #[.pointer (some ⟨b, 0, none⟩)] w fun e w' => e = .returned (.string ⟨l.toArray⟩) ∧ Below B w w' := by
 obtain ⟨p, hp, hAt⟩ : ∃ p, (p = .pointer none ∨ p = .pointer (some ⟨b, 0, none⟩)) ∧ Lib.BuilderAtF 149 5 B b p (Lib.byteCells l) w := by
  rcases h with h | h
  ·exact ⟨_, .inl rfl, h⟩
  ·exact ⟨_, .inr rfl, h⟩
 obtain ⟨hB, v, hbk, hown, hne⟩ := hAt;have hl0 : l.length ≠ 0 := by simpa using h0
 rw [Lib.byteCells_length] at hown
 obtain ⟨g, cap, cur, fz, rfl, hbg, hg, hfz, hnc, hcm, hcs, htake⟩ : ∃ g cap cur fz, v = .slice (some ⟨g, 0, none⟩) l.length cap ∧ B ≤ g ∧ w.heap[g]? = some (.cells cur 5 fz) ∧ fz.2 ≤ l.length * 1 ∧ l.length ≤ cap ∧ cap ≤ maxLen ∧ cur.size = cap * 1 ∧ cur.toList.take (l.length * 1) = Lib.byteCells l := by
  rcases hown.2 with ⟨_, hz⟩ | ⟨g, cap, cur, fz, hv, r⟩
  ·exact absurd hz hl0
  ·exact ⟨g, cap, cur, fz, hv, r⟩
 have c1 : w.drew.cell? ⟨b, 1, none⟩ = some (.slice (some ⟨g, 0, none⟩) l.length cap) := by
  have : w.drew.heap[b]? = some (.cells #[p, .slice (some ⟨g, 0, none⟩) l.length cap] 149 (0, 0)) := hbk;rw [Lib.cell_of_heap this]; rfl
 have hSD : (Builtin.unsafeSliceData_ #[92] 176 #[.slice (some ⟨g, 0, none⟩) l.length cap]).run Tryz.prog w.drew = .ok (.pointer (some ⟨g, 0, none⟩)) w.drew :=
  Lib.run_unsafeSliceData_row _ _ _ _ _ _ (by omega)
 have hUS : (Builtin.unsafeString_ #[176, 3] 9 #[.pointer (some ⟨g, 0, none⟩), .int .i64 l.length]).run Tryz.prog w.drew = .ok (.string ⟨l.toArray⟩) (w.drew.freeze ⟨g, 0, none⟩ l.length) := by
  refine Lib.run_unsafeString_row w.drew 176 3 9 5 Tryz.underlying176 cellsByte g cur.size (by have hg' : w.drew.heap[g]? = some (.cells cur 5 fz) := hg; simp [World.shape?, hg']) l h0 (by omega) (by unfold maxLen at hcm; omega) ?_;intro j x hx;have := hown.cells (g := g) rfl j (.int .u8 x.toNat) (by simp [Lib.byteCells, hx]);exact this
 have HG := Lib.hid hbg;clear hown hne htake hcs hnc hcm hfz hbg hbk hp;have mixed : Tryz.prog.follows .mixedOrders = true := by kernel_rfl
 go_enter Tryz.func104, Tryz.ntmps104
 go_wp2
 go_region_o
 all_goals (go_wp2; go_ret; exact ⟨rfl, Lib.below_freeze (Below.drew (Below.refl B w)) (p := ⟨g, 0, none⟩) HG.out _⟩)
end Go.Proofs.YtcmlojigcgihbaaGreatDoor.pw
namespace Go.Proofs.YtcmlojigcgihbaaGreatDoor
open Go.RowKit
def sepL (sep : List UInt8) : List (List UInt8) → List UInt8
 | [] => []
 | x :: l => x ++ (l.map fun y => sep ++ y).flatten
theorem sepL_snoc (sep : List UInt8) (l : List (List UInt8)) (x : List UInt8) : sepL sep (l ++ [x]) = sepL sep l ++ ((if l = [] then [] else sep) ++ x) := by
 cases l with
 | nil => simp [sepL]
 | cons y l => simp [sepL]
theorem sepL_take_le (sep : List UInt8) : ∀ (l : List (List UInt8)) (k : Nat), (sepL sep (l.take k)).length ≤ (sepL sep l).length
 | [], k => by simp
 | x :: l, 0 => by simp [sepL]
 | x :: l, k + 1 => by
  have key : ∀ (m : List (List UInt8)) (j : Nat), (((m.take j).map fun y => sep ++ y).flatten).length ≤ ((m.map fun y => sep ++ y).flatten).length := by
   intro m
   induction m with
   | nil => intro j; simp
   | cons y m ih =>
    intro j
    cases j with
    | zero => simp
    | succ j => have := ih j; simp only [List.take_succ_cons, List.map_cons, List.flatten_cons, List.length_append]; omega
  have := key l k;simp only [List.take_succ_cons, sepL, List.length_append]; omega
def showM : Tm → List UInt8
 | .mk k s x l => if k = 1 then s.data.toList
  else if k = 2 then printB x
  else if k = 3 then s.data.toList ++ (40 :: (sepL [44] (l.attach.map fun y => showM y.1) ++ [41]))
  else if k = 4 then 40 :: (sepL s.data.toList (l.attach.map fun y => showM y.1) ++ [41])
  else []
 termination_by t => SizeOf.sizeOf t
 decreasing_by
  all_goals
   have := List.sizeOf_lt_of_mem y.2;simp only [Tm.mk.sizeOf_spec]
   omega
theorem showM_mk (k : Int) (s : ByteArray) (x : V) (l : List Tm) : showM (.mk k s x l) = if k = 1 then s.data.toList
  else if k = 2 then printB x
  else if k = 3 then s.data.toList ++ (40 :: (sepL [44] (l.map showM) ++ [41]))
  else if k = 4 then 40 :: (sepL s.data.toList (l.map showM) ++ [41])
  else [] := by
 rw [showM];have e : (l.attach.map fun y => showM y.1) = l.map showM := by simp
 rw [e]
def showAtom (s : ByteArray) (l : List (List UInt8)) : List UInt8 := s.data.toList ++ (40 :: 64 :: (sepL [44] l ++ [41]))
def showLi (x : Li) : List UInt8 :=
 if x.kind = 1 then showAtom x.name (x.args.map showM)
 else if x.kind = 2 then 33 :: showAtom x.name (x.args.map showM)
 else if x.kind = 3 then sepL (32 :: (x.name.data.toList ++ [32])) (x.args.map showM)
 else if x.kind = 4 then x.name.data.toList ++ (32 :: 58 :: 61 :: 32 :: ((x.args.map showM).head?.getD []))
 else []
def aggAt (x : Ru) (i : Nat) (t : List UInt8) : List UInt8 := if x.agg.toList.isEmpty = true ∨ (i : Int) ≠ x.at' then t else x.agg.data.toList ++ (60 :: (t ++ [62]))
def showHead (x : Ru) : List UInt8 := showAtom x.head ((x.args.map showM).mapIdx fun i t => aggAt x i t)
def showRu (x : Ru) : List UInt8 := x.label.data.toList ++ (32 :: (showHead x ++ ([32, 58, 45, 32] ++ (sepL [44, 32] (x.body.map showLi) ++ [46]))))
end Go.Proofs.YtcmlojigcgihbaaGreatDoor
namespace Go.Proofs.YtcmlojigcgihbaaGreatDoor
open Go.RowKit
def TellsAt (F : Nat) (q1 q2 : Value) (B b : Nat) (w0 : World) (L : List (List UInt8)) : Prop :=
 ∀ (i : Nat) (hi : i < L.length) (acc : List UInt8) (w : World), pw.Wrote B b acc w0 w → acc.length + L[i].length ≤ 140737488355328 →
  Calls Tryz.prog F #[.int .i64 i, q1, q2] w fun e w' => e = .returned (.tuple #[]) ∧ pw.Wrote B b (acc ++ L[i]) w w'
theorem size_list (s : ByteArray) : s.data.toList.length = s.size := by simp
set_option maxRecDepth 100000 in
set_option maxHeartbeats 2000000 in
theorem wlist_any (F : Nat) (q1 q2 : Value) (B b : Nat) (acc : List UInt8) (w : World) (sep : ByteArray) (L : List (List UInt8)) (hen : ∀ args w, Sem.run Tryz.prog (callFunc F args) w = .ok (.enter F args) w) (hB : B ≤ w.heap.size)
  (hbu : Lib.IsBuilderF 149 5 B b (Lib.byteCells acc) w) (hlen : acc.length + (sepL sep.data.toList L).length ≤ 140737488355328) (hn : L.length ≤ 140737488355328) (tells : TellsAt F q1 q2 B b w L) :
  Calls Tryz.prog 113 #[.pointer (some ⟨b, 0, none⟩), .int .i64 L.length, .string sep, .func (.func F) #[] #[q1, q2]] w fun e w' => e = .returned (.tuple #[]) ∧ pw.Wrote B b (acc ++ sepL sep.data.toList L) w w' := by
 have W0 := Lib.hid (pw.Wrote.start hbu hB (Below.refl _ w));have HT := Lib.hid tells; have HE := Lib.hid hen; have HLEN := Lib.hid hlen
 clear hbu tells hen hlen;go_enter Tryz.func113, Tryz.ntmps113
 go_wp2_with fail
 go_loopw [10, 8] (fun i _ wx => ∃ k : Nat, k ≤ L.length ∧ i = .int .i64 k ∧ Hid (pw.Wrote B b (acc ++ sepL sep.data.toList (L.take k)) w wx)) (fun i _ _ => L.length - (intOf i).toNat)
 case atStart => exact ⟨0, Nat.zero_le _, rfl, by show pw.Wrote _ _ _ _ _; simpa [sepL] using W0.out⟩
 case round =>
  obtain ⟨k, hk, rfl, HW⟩ := hrel
  by_cases hl : k < L.length
  ·have hts : L.take (k + 1) = L.take k ++ [L[k]] := List.take_succ_eq_append_getElem hl
   have hsn := sepL_snoc sep.data.toList (L.take k) L[k];have hle := sepL_take_le sep.data.toList L (k + 1);rw [hts, hsn] at hle;have hw := HW.out;have HX : Hid (sepL sep.data.toList (L.take (k + 1)) = sepL sep.data.toList (L.take k) ++ ((if L.take k = [] then [] else sep.data.toList) ++ L[k])) := by show _ = _; rw [hts, hsn]
   have HLE := Lib.hid hle;have hne : ∀ args w, Sem.run Tryz.prog (callFunc F args) w = .ok (.enter F args) w := HE.out;have hBx : B ≤ wr.heap.size := Nat.le_trans hB hw.2.1.size;clear hts hsn hle hw
   by_cases h0 : k = 0
   ·have HI : Hid ((if L.take k = [] then ([] : List UInt8) else sep.data.toList) = []) := by show _ = _; rw [if_pos (by simp [h0])]
    have h0' : decide (0 < (k : Int)) = false := by simp [h0]
    have h0n : decide (0 < k) = false := by simp [h0]
    clear h0;go_wp2_with fail
    refine (HT.out k hl _ _ HW.out (by have h1 := HLE.out; have h2 := HLEN.out; simp only [List.length_append] at h1 ⊢; omega)).mono ?_;rintro e w3 ⟨rfl, W3⟩;have W4 := Lib.hid (HW.out.trans W3);clear W3;go_wp2_with fail
    go_roundw
    case rel => exact ⟨k + 1, by omega, by go_num, by show pw.Wrote _ _ _ _ _; rw [HX.out, HI.out]; simpa [List.append_assoc] using W4.out⟩
    case measure => simp [intOf]; omega
   ·have HI : Hid ((if L.take k = [] then ([] : List UInt8) else sep.data.toList) = sep.data.toList) := by show _ = _; rw [if_neg (by intro h; have := congrArg List.length h; rw [List.length_take, List.length_nil] at this; omega)]
    have h0' : decide (0 < (k : Int)) = true := by simp; omega
    have h0n : decide (0 < k) = true := by simp; omega
    clear h0;go_wp2_with fail
    refine (pw.wstr B b _ sep _ HW.out.1 (by have h1 := HLE.out; have h2 := HLEN.out; rw [HI.out] at h1; rw [← size_list]; simp only [List.length_append] at h1 ⊢; omega) hBx).mono ?_;rintro e w2 ⟨rfl, W2⟩;have W2' := Lib.hid (HW.out.trans W2);clear W2;go_wp2_with fail
    refine (HT.out k hl _ _ W2'.out (by have h1 := HLE.out; have h2 := HLEN.out; rw [HI.out] at h1; simp only [List.length_append] at h1 ⊢; omega)).mono ?_;rintro e w3 ⟨rfl, W3⟩;have W4 := Lib.hid (W2'.out.trans W3);clear W3;go_wp2_with fail
    go_roundw
    case rel => exact ⟨k + 1, by omega, by go_num, by show pw.Wrote _ _ _ _ _; rw [HX.out, HI.out]; simpa [List.append_assoc] using W4.out⟩
    case measure => simp [intOf]; omega
  ·have HF : Hid (L.take k = L) := List.take_of_length_le (by omega)
   rw [HF.out] at HW;go_wp2_with fail
   go_end0
   exact ⟨rfl, HW.out⟩
set_option maxRecDepth 100000 in
set_option maxHeartbeats 2000000 in
theorem watom_any (F : Nat) (q1 q2 : Value) (B b : Nat) (acc : List UInt8) (w : World) (s : ByteArray) (L : List (List UInt8)) (hen : ∀ args w, Sem.run Tryz.prog (callFunc F args) w = .ok (.enter F args) w) (hB : B ≤ w.heap.size)
  (hbu : Lib.IsBuilderF 149 5 B b (Lib.byteCells acc) w) (hlen : acc.length + (showAtom s L).length ≤ 140737488355328) (hn : L.length ≤ 140737488355328) (tells : TellsAt F q1 q2 B b w L) :
  Calls Tryz.prog 143 #[.pointer (some ⟨b, 0, none⟩), .string s, .int .i64 L.length, .func (.func F) #[] #[q1, q2]] w fun e w' => e = .returned (.tuple #[]) ∧ pw.Wrote B b (acc ++ showAtom s L) w w' := by
 have HL : Hid (acc.length + s.size + 3 + (sepL [44] L).length ≤ 140737488355328) := by
  show _ ≤ _
  simp only [showAtom, List.length_append, List.length_cons, List.length_nil, size_list] at hlen
  omega
 have HBU := Lib.hid hbu; have HT := Lib.hid tells; have HE := Lib.hid hen
 clear hbu tells hen hlen;go_enter Tryz.func143, Tryz.ntmps143
 go_wp2_with fail
 refine (pw.wstr B b acc s _ HBU.out (by have := HL.out; omega) hB).mono ?_;rintro e w1 ⟨rfl, W1⟩;have HW1 := Lib.hid W1; clear W1
 go_wp2_with fail
 refine (pw.wstr B b _ ⟨#[40, 64]⟩ _ HW1.out.1 (by have := HL.out; simp only [List.length_append, size_list]; show _ + 2 ≤ _; omega) (Nat.le_trans hB HW1.out.2.1.size)).mono ?_;rintro e w2 ⟨rfl, W2⟩;have HW2 := Lib.hid (HW1.out.trans W2); clear W2 HW1
 go_wp2_with fail
 refine (wlist_any F q1 q2 B b _ _ ⟨#[44]⟩ L HE.out (Nat.le_trans hB HW2.out.2.1.size) HW2.out.1 (by have := HL.out; simp only [List.length_append, size_list]; show _ + 2 + (sepL [44] L).length ≤ _; omega) hn (fun i hi a' w' hw hl => HT.out i hi a' w' (HW2.out.trans hw) hl)).mono ?_;rintro e w3 ⟨rfl, W3⟩;have HW3 := Lib.hid (HW2.out.trans W3); clear W3 HW2
 go_wp2_with fail
 refine (pw.wbyte B b _ 41 _ HW3.out.1 (by have := HL.out; simp only [List.length_append, size_list]; show _ + 2 + (sepL [44] L).length + 1 ≤ _; omega) (Nat.le_trans hB HW3.out.2.1.size)).mono ?_;rintro e w4 ⟨rfl, W4⟩;have HW4 := Lib.hid (HW3.out.trans W4); clear W4 HW3
 go_wp2_with fail
 go_end0
 refine ⟨rfl, ?_⟩;have h := HW4.out
 simpa [showAtom, List.append_assoc] using h
end Go.Proofs.YtcmlojigcgihbaaGreatDoor
