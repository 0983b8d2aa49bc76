/-
  RfPrinted, RefPrinted, RfShown
-/
import Derived.Test.YtgjemmdhamkngaaGreatDoorKG05
import Derived.Test.YtgjemmdhamkngaaGreatDoorK06
import Derived.Lib.SmallJoins
import Derived.Maps.AppendAt
import Derived.Deep.RegionHeld3
namespace Go.Proofs.YtgjemmdhamkngaaGreatDoor
open Go.RowKit
theorem infoStr : (Tryz.prog.info? 9).map (fun i => (i.zero, i.size, i.bytes)) = some (some (.string ⟨#[]⟩), 1, 16) := by kernel_rfl
theorem infoS_parts : ∃ i : TypeInfo, Tryz.prog.info? 9 = some i ∧ i.zero = some (.string ⟨#[]⟩) ∧ i.size = 1 ∧ i.bytes = 16 := by
 have h := infoStr
 cases hi : Tryz.prog.info? 9 with
 | none => rw [hi] at h; cases h
 | some i =>
  rw [hi] at h
  simp only [Option.map_some, Option.some.injEq, Prod.mk.injEq] at h
  exact ⟨i, rfl, h.1, h.2.1, h.2.2⟩
def strCells (l : List ByteArray) : List Value := l.map .string
def OwnS (w : World) (base : Nat) (v : Value) (l : List ByteArray) : Prop := w.ownsRow base 9 1 v l.length (strCells l)
theorem OwnS.nil (w : World) (base : Nat) : OwnS w base (.slice none 0 0) [] := World.ownsRow_nil _ _ _ _
theorem OwnS.form {w : World} {base : Nat} {l : List ByteArray} {v : Value} (h : OwnS w base v l) : ∃ a cap, v = .slice a l.length cap := by
 obtain ⟨_, hown⟩ := h
 rcases hown with ⟨rfl, hn⟩ | ⟨g, cap, cur, rfl, _⟩
 ·exact ⟨none, 0, by rw [hn]⟩
 ·exact ⟨_, _, rfl⟩
theorem OwnS.lies {w : World} {base : Nat} {l : List ByteArray} {v : Value} (h : OwnS w base v l) (k : Nat) (hk : v.ownBlock = some k) : base ≤ k ∧ k < w.heap.size := by
 obtain ⟨_, hown⟩ := h
 rcases hown with ⟨rfl, hn⟩ | ⟨g, cap, cur, rfl, hbg, hh, _⟩
 ·simp [Value.ownBlock] at hk
 ·simp [Value.ownBlock] at hk
  subst hk
  exact ⟨hbg, (Array.getElem?_eq_some_iff.1 hh).1⟩
theorem OwnS.on {w w' : World} {base : Nat} {l : List ByteArray} {v : Value} (h : OwnS w base v l) (ho : ∀ k, base ≤ k → k < w.heap.size → v.ownBlock = some k → w'.heap[k]? = w.heap[k]?) : OwnS w' base v l := by
 obtain ⟨hlen, hown⟩ := h
 refine ⟨hlen, ?_⟩
 rcases hown with h | ⟨g, cap, cur, rfl, hbg, hh, r⟩
 ·exact .inl h
 ·exact .inr ⟨g, cap, cur, rfl, hbg, (ho g hbg (Array.getElem?_eq_some_iff.1 hh).1 rfl).trans hh, r⟩
theorem OwnS.stands {w w' : World} {base : Nat} {l : List ByteArray} {v : Value} (h : OwnS w base v l) (hb : Below w.heap.size w w') : OwnS w' base v l := h.on fun k _ hk _ => hb.block k hk
theorem OwnS.rows {w : World} {base : Nat} {l : List ByteArray} {v : Value} (h : OwnS w base v l) : StrAt w l v := by
 obtain ⟨hlen, hown⟩ := h
 rcases hown with ⟨h1, hn⟩ | ⟨g, cap', cur, h1, hbg, hh, hnc, hcm, hcs, htk⟩
 ·exact ⟨none, 0, by rw [h1, hn], by omega, fun h => by omega⟩
 ·refine ⟨_, cap', h1, hnc, fun _ => ⟨g, 0, rfl, fun i hi => ?_⟩⟩
  have hv : (strCells l)[i]? = some (.string l[i]) := by simp [strCells, hi]
  rw [← htk, List.getElem?_take, if_pos (by omega)] at hv
  rw [Nat.zero_add]
  exact cell_of_block' hh _ (by rw [← Array.getElem?_toList]; exact hv)
theorem add_litS (b j : Nat) : ((⟨b, 0, none⟩ : Addr).add j) = ⟨b, j, none⟩ := by unfold Addr.add; split <;> simp_all
theorem str_append {W : World} {base : Nat} {l : List ByteArray} {v : Value} (hown : OwnS W base v l) (hbase : base ≤ W.heap.size) (hlen : l.length ≤ 1000000) (x : ByteArray) (ty : TypeId) :
  ∃ (a : Option Addr) (n cap : Nat) (w6 : World), (Builtin.append_ #[74, 74] ty #[v, .slice (some ⟨W.heap.size, 0, none⟩) 1 1]).run Tryz.prog (W.alloc (.cells #[.string x] 9)) = .ok (.slice a n cap) w6 ∧
   OwnS w6 base (.slice a n cap) (l ++ [x]) ∧ Below base W w6 := by
 obtain ⟨i0, hi, hz0, hz1, hz2⟩ := infoS_parts
 have hbW := below_alloc W (.cells #[.string x] 9)
 have hsW := World.size_alloc W (.cells #[.string x] 9)
 have hnew := alloc_new' W (.cells #[.string x] 9)
 generalize W.alloc (.cells #[.string x] 9) = W' at *
 have hm := hown.stands hbW
 obtain ⟨v', w6, hrun, h1, h2, _, h5⟩ := run_append_own_at (P := Tryz.prog) W' base 74 ty 9 i0 _ 1 16 Tryz.underlying74 hi hz0 hz1 hz2 rfl (by decide) v l.length (strCells l) hm ⟨W.heap.size, 0, none⟩ 1 1 [.string x] rfl
  (fun j u hj => by
   have e : ((⟨W.heap.size, 0, none⟩ : Addr).add j) = ⟨W.heap.size, j, none⟩ := add_litS _ _
   rw [e]
   exact cell_of_block' hnew u (by rw [← hj]; simp))
  (fun u hu => by simp at hu; rw [hu]; rfl) (by unfold maxLen; omega) (by omega) (by omega)
 have ho : OwnS w6 base v' (l ++ [x]) := by
  show w6.ownsRow _ _ _ _ _ _
  rw [List.length_append, show strCells (l ++ [x]) = strCells l ++ [.string x] by simp [strCells]]; exact h1
 obtain ⟨a, cap, rfl⟩ := ho.form
 have hgs := h2.size
 refine ⟨a, _, cap, w6, hrun, ho, h2.os.trans hbW.os, h2.tape.trans hbW.tape, h2.output.trans hbW.output, by omega, fun k hk => ?_⟩
 exact (h2.block k (by omega) (fun e => by have := (OwnS.lies hown k e.symm).1; omega)).trans (hbW.block k (by omega))
theorem wpList_append_byS {P : Program} {w w' : World} {ops : Array Oper} {rest : List Oper} {o : Oper} {a : Act} {Q : Exit → Act → World → Prop} (hgd : o.guard = none) (s x : Operand) (t : TypeId)
  (ho : o.op = .call { callee := .builtin .append, args := #[s, x], argTypes := #[t, t] }) {v xv v' : Value} (hs : a.eval s = v) (hx : a.eval x = xv) (hrun : (Builtin.append_ #[t, t] o.type #[v, xv]).run P w = .ok v' w')
  (h : wpList P ops Q rest (a.put o.dst v') w') : wpList P ops Q (o :: rest) a w := by
 refine wpList_plain hgd fun K hK => ?_
 unfold Oper.wp execOp
 simp only [ho, resolve, invoke, builtin, Sem.run_bind, Sem.run_pure, Result.andThen_ok, List.map_toArray, List.map_cons, List.map_nil, hs, hx, hrun]
 exact hK _ _ h
def showB (t : Tm) : ByteArray := ⟨(showM t).toArray⟩
def ShownAt (t : Tm) : Prop := ∀ (d : Nat) (S : Nat → Prop) (w : World) (c0 c1 c2 c3 c4 c5 c6 : Value), (∀ k, S k → k < w.heap.size) → RepM S w t c0 c1 c2 c3 c4 c5 c6 → rightM d t = true → (showM t).length ≤ 140737488355328 →
 Calls Tryz.prog 56 #[.agg #[c0, c1, c2, c3, c4, c5, c6]] w fun e w' => e = .returned (.string (showB t)) ∧ Below w.heap.size w w'
set_option maxRecDepth 100000 in
set_option maxHeartbeats 4000000 in
theorem printed_any (l : List Tm) (hP : ∀ t ∈ l, ShownAt t) (d : Nat) (S : Nat → Prop) (w : World) (a : Value) (hS : ∀ k, S k → k < w.heap.size) (ha : RepMs S w l a) (hr : ∀ t ∈ l, rightM d t = true) (hs : ∀ t ∈ l, (showM t).length ≤ 140737488355328) (hn : l.length ≤ 100) :
  Calls Tryz.prog 47 #[a] w fun e w' => ∃ v, e = .returned v ∧ OwnS w' w.heap.size v (l.map showB) ∧ Below w.heap.size w w' := by
 have HA := Lib.hid ha; have HP := Lib.hid hP; have HR := Lib.hid hr; have HS := Lib.hid hs
 obtain ⟨aa, cap, rfl⟩ := SlG.form ha
 clear ha hP hr hs
 go_enter Tryz.func47, Tryz.ntmps47
 go_wp2_with fail
 go_loopw [3, 4] (fun v i wr => ∃ k : Nat, k ≤ l.length ∧ i = .int .i64 k ∧ OwnS wr w.heap.size v ((l.take k).map showB) ∧ Below w.heap.size w wr) (fun _ i _ => l.length - (intOf i).toNat)
 case atStart => exact ⟨0, Nat.zero_le _, rfl, OwnS.nil _ _, Below.refl _ _⟩
 case round =>
  obtain ⟨k, hk, rfl, hown, hbel⟩ := hrel
  have HB := Lib.hid hbel
  have HO := Lib.hid hown
  obtain ⟨oa, oc, rfl⟩ := hown.form
  clear hown
  have hol : ((l.take k).map showB).length = k := by rw [List.length_map, List.length_take]; omega
  rw [hol] at HO ⊢
  by_cases hl : k < l.length
  ·have hA := RepMs.on (fun _ h => h) (fun j hj => hbel.block j (hS j hj)) HA.out
   obtain ⟨-, hcap, lb, lo, ea, ec, ia, ic, rfl, -, g0, g1, g2, g3, g4, g5, g6, g⟩ := RepMs.at hA k hl
   have G := Lib.hid g
   have hz := HP.out l[k] (List.getElem_mem hl)
   have hz1 := HR.out l[k] (List.getElem_mem hl)
   have hz2 := HS.out l[k] (List.getElem_mem hl)
   have HZ := Lib.hid hz; have HZ1 := Lib.hid hz1; have HZ2 := Lib.hid hz2
   have HTK : Hid ((l.take (k + 1)).map showB = (l.take k).map showB ++ [showB l[k]]) := by
    show _ = _
    rw [List.take_succ_eq_append_getElem hl, List.map_append]; rfl
   clear hA g hbel hz hz1 hz2 hol
   generalize l[k] = z at *
   go_wp2_with fail
   refine (HZ.out d S _ _ _ _ _ _ _ _ (fun j hj => Nat.lt_of_lt_of_le (hS j hj) HB.out.size) G.out HZ1.out HZ2.out).mono ?_
   rintro e w3 ⟨rfl, hb3⟩
   have HB3 := Lib.hid (Below.step HB.out hb3)
   have HO3 := Lib.hid (HO.out.stands hb3)
   clear hb3 g0 g1 g2 g3 g4 g5 g6
   have hlk : ((l.take k).map showB).length ≤ 1000000 := by rw [List.length_map, List.length_take]; omega
   generalize showB z = sb at *
   obtain ⟨a6, n6, c6, w6, hrun, ho6, hb6⟩ := str_append HO3.out HB3.out.size hlk sb 74
   have HRUN := Lib.hid hrun; have HO6 := Lib.hid ho6; have HB6 := Lib.hid (HB3.out.trans hb6)
   clear hrun ho6 hb6 hlk
   go_wp2_with (at_builtin; refine wpList_append_byS rfl _ _ _ rfl rfl rfl HRUN.out ?_)
   go_roundw
   case rel => exact ⟨k + 1, by omega, by go_num, by rw [HTK.out]; exact HO6.out, HB6.out⟩
   case measure => simp [intOf]; omega
  ·have HT : Hid ((l.take k).map showB = l.map showB) := by show _ = _; rw [List.take_of_length_le (by omega)]
   go_wp2_with fail
   go_ret
   exact ⟨_, rfl, by rw [← HT.out]; exact HO.out, HB.out⟩
end Go.Proofs.YtgjemmdhamkngaaGreatDoor
namespace Go.Proofs.YtgjemmdhamkngaaGreatDoor
open Go.RowKit
theorem right_succ : ∀ (d : Nat) (x : V), rightV d x = true → rightV (d + 1) x = true
 | d, .mk k n s l, h => by
  rw [rightV_mk] at h ⊢
  rcases baseB_cases h with ⟨rfl, h1, h2, h3, h4⟩ | ⟨rfl, h1, h2, h3⟩ | ⟨rfl, h1, h2, h3⟩ | ⟨rfl, h1, h2, h3⟩
  ·simp [baseB, h1, h2, h3, h4]
  ·simp [baseB, h1, h2, h3]
  ·simp [baseB, h1, h2, h3]
  ·match d, h3 with
   | d + 1, h3 =>
    simp only [rightL, Bool.and_eq_true, decide_eq_true_eq, List.all_eq_true] at h3
    have : rightL (d + 2) l = true := by
     simp only [rightL, Bool.and_eq_true, decide_eq_true_eq, List.all_eq_true]
     exact ⟨h3.1, fun x hx => right_succ d x (h3.2 x hx)⟩
    simp [baseB, h1, h2, this]
def RefPrintAt (x : V) : Prop := ∀ (B : Nat) (w : World) (c0 c1 c2 c3 : Value), B ≤ w.heap.size → RepV B w x c0 c1 c2 c3 →
 Calls Tryz.prog 40 #[.agg #[c0, c1, c2, c3]] w fun e w' => e = .returned (.string ⟨(printB x).toArray⟩) ∧ Below w.heap.size w w'
theorem print_list_elem {l : List V} {n : Int} {s : ByteArray} (h : rightV 4 (.mk 4 n s l) = true) (j : Nat) (hj : j < l.length) : printB l[j] = prV l[j] ∧ l.length ≤ 16 := by
 rw [rightV_mk] at h
 rcases baseB_cases h with ⟨h0, _⟩ | ⟨h0, _⟩ | ⟨h0, _⟩ | ⟨_, _, _, h3⟩
 ·omega
 ·omega
 ·omega
 ·simp only [rightL, Bool.and_eq_true, decide_eq_true_eq, List.all_eq_true] at h3
  refine ⟨?_, h3.1⟩
  rw [printB, if_pos (right_succ 3 _ (h3.2 _ (List.getElem_mem hj)))]
set_option maxRecDepth 100000 in
set_option maxHeartbeats 2000000 in
theorem refPrint_of (x : V) (hP : ∀ y, y ∈ x.list → RefPrintAt y) : RefPrintAt x := by
 match x with
 | .mk k n s l =>
 have HP := Lib.hid hP; clear hP
 intro B w c0 c1 c2 c3 hB hx
 have HX := Lib.hid hx
 rw [repV_mk] at hx
 obtain ⟨rfl, rfl, rfl, hk, hn, hs, hl⟩ := hx
 have HL := Lib.hid hl
 obtain ⟨aa, ab, ao, ac, rfl, -⟩ := hl
 have hbb : Below w.heap.size w (w.alloc (.cells #[.int .i64 k, .int .i64 n, .string s, .slice aa l.length ac] 44)) := (Below.refl _ w).alloc (Nat.le_refl _) _
 go_enter Tryz.func40, Tryz.ntmps40
 go_wp2_with fail
 have bx := boxed_new w (.int .i64 k) (.int .i64 n) (.string s) (.slice aa l.length ac)
 generalize w.alloc (.cells #[.int .i64 k, .int .i64 n, .string s, .slice aa l.length ac] 44) = w1 at *
 refine (refRight_any (.mk k n s l) B _ _ _ _ _ (by have := hbb.size; omega) (RepV.below (fun j hj => hbb.block j (by omega)) _ HX.out)).mono ?_
 rintro e w2 ⟨rfl, b2⟩
 have HBX := Lib.hid (bx.on b2); clear bx
 have B2 : Below w.heap.size w w2 := hbb.trans (b2.mono hbb.size)
 clear b2 hbb
 obtain ⟨p0, p1, p2, p3⟩ := HBX.out.cells
 cases hr : rightV 4 (.mk k n s l) with
 | false =>
  have HR := Lib.hid hr; clear hr
  go_wp2_with fail
  go_ret
  exact ⟨ret_str (a := []) (by rw [printB, if_neg (by simp [HR.out])]), B2⟩
 | true =>
  have HPR : Hid (printB (.mk k n s l) = prV (.mk k n s l)) := by show _ = _; rw [printB, if_pos hr]
  have HLE := Lib.hid (prV_le 4 _ hr).1
  have hc := hr
  rw [rightV_mk] at hc
  rcases baseB_cases hc with ⟨rfl, h1, h2, h3, h4⟩ | ⟨rfl, h1, h2, h3⟩ | ⟨rfl, h1, h2, h3⟩ | ⟨rfl, h1, h2, h3⟩
  ·clear hc hr h1 h2
   have HE : Hid (prV (.mk 1 n s l) = Lib.itoa n) := by show _ = _; simp [prV]
   go_wp2_with fail
   refine (digits_any n (by omega) (by omega) _).mono ?_
   rintro e w3 ⟨rfl, b3⟩
   go_wp2_with fail
   go_ret
   exact ⟨ret_ba (by rw [HPR.out, HE.out]), B2.trans (b3.mono B2.size)⟩
  ·have hsz := textB_le h3
   clear hc hr h1 h2 h3
   have HE : Hid (prV (.mk 2 n s l) = 34 :: (s.data.toList ++ [34])) := by show _ = _; simp [prV]
   go_wp2_with fail
   go_ret
   refine ⟨ret_ba ?_, B2⟩
   rw [HPR.out, HE.out]
   apply ByteArray.ext
   simp only [ByteArray.data_append]
   simp
  ·clear hc hr h1 h2 h3
   have HE : Hid (prV (.mk 3 n s l) = s.data.toList) := by show _ = _; simp [prV]
   go_wp2_with fail
   go_ret
   refine ⟨ret_ba ?_, B2⟩
   rw [HPR.out, HE.out]
  ·have HEL := Lib.hid (fun j hj => print_list_elem hr j hj)
   clear hc hr h1 h2 h3
   have HE : Hid (prV (.mk 4 n s l) = 91 :: (prL true l ++ [93])) := by show _ = _; simp [prV]
   have hpl : (prL true l).length + 2 ≤ 64 * 20 ^ 4 := by
    have := HLE.out; rw [HE.out] at this
    simp only [List.length_cons, List.length_append, List.length_nil] at this
    omega
   have HPLE := Lib.hid hpl; clear hpl HLE
   have hs2 := B2.size
   obtain ⟨ca, cb, co, cc, hc1, hcl, hc56, hca, hcb, hcx⟩ := RepL.below (w' := w2) (fun j hj => B2.block j (by omega)) HL.out
   cases hc1
   have HCX := Lib.hid hcx; have HCA := Lib.hid hca
   clear hcx hca HL p0 p1 p2 p3
   obtain ⟨p0, p1, p2, p3⟩ := HBX.out.cells
   go_wp2_with fail
   clear p0 p1 p2 p3
   go_loopw [4, 5] (fun v i wr => ∃ j : Nat, j ≤ l.length ∧ i = .int .i64 j ∧ v = .string ⟨(91 :: prL true (l.take j)).toArray⟩ ∧ Below w2.heap.size w2 wr) (fun _ i _ => l.length - (intOf i).toNat)
   case atStart => exact ⟨0, Nat.zero_le _, rfl, by simp [prL], Below.refl _ _⟩
   case round =>
    obtain ⟨j, hj1, rfl, rfl, hbel⟩ := hrel
    obtain ⟨p0, p1, p2, p3⟩ := (HBX.out.on hbel).cells
    have hsr := hbel.size
    have hple := HPLE.out
    have htk : (prL true (l.take j)).length ≤ (prL true l).length := prL_take_le l j
    have hsz0 : (⟨(91 :: prL true (l.take j)).toArray⟩ : ByteArray).size ≤ 20000000 := by rw [size_mk]; simp only [List.length_cons]; omega
    generalize hsb : (⟨(91 :: prL true (l.take j)).toArray⟩ : ByteArray) = sb at *
    have HSB := Lib.hid hsb
    clear hsb hple htk
    by_cases hl : j < l.length
    ·obtain ⟨x0, x1, x2, x3, g0, g1, g2, g3, gr⟩ := HCX.out j hl
     have hcb' : cb < B := hcb (by omega)
     obtain rfl := HCA.out (by omega)
     rw [← hbel.cell (by simp; omega)] at g0 g1 g2 g3
     have htk2 : (prL true (l.take (j + 1))).length ≤ (prL true l).length := prL_take_le l (j + 1)
     have hts : prL true (l.take (j + 1)) = prL true (l.take j) ++ ((if j = 0 then [] else [44]) ++ prV l[j]) := by
      rw [List.take_succ_eq_append_getElem hl, prL_snoc]
      by_cases e : j = 0
      ·subst e; simp
      ·rw [if_neg (by simp [e]; intro h; rw [h] at hl; simp at hl), if_neg e]
     have hvl : (prV l[j]).length ≤ 20000000 := by
      have := HPLE.out
      rw [hts] at htk2
      simp only [List.length_append] at htk2
      omega
     have HTS := Lib.hid hts
     clear hts htk2
     by_cases hj0 : j = 0
     ·have t0 : decide (0 < j) = false := by simp [hj0]
      have HJ0 := Lib.hid hj0; clear hj0
      go_wp2_with fail
      refine (HP.out l[j] (List.getElem_mem hl) B _ _ _ _ _ (by omega) (RepV.below (fun i hi => hbel.block i (by omega)) _ gr)).mono ?_
      rintro e w3 ⟨rfl, b3⟩
      rw [(HEL.out j hl).1]
      have B3 := hbel.trans (b3.mono hsr)
      have hsz1 : (⟨(prV l[j]).toArray⟩ : ByteArray).size ≤ 20000000 := by rw [size_mk]; exact hvl
      generalize hpb : (⟨(prV l[j]).toArray⟩ : ByteArray) = pb at *
      have HPB := Lib.hid hpb
      clear hpb g0 g1 g2 g3 p0 p1 p2 p3 b3
      go_wp2_with fail
      go_roundw
      case rel => exact ⟨j + 1, by omega, by go_num, by rw [HTS.out, if_pos HJ0.out, ← HSB.out, ← HPB.out, app_mk]; simp, B3⟩
      case measure => simp [intOf]; omega
     ·have t0 : decide (0 < j) = true := by simp; omega
      have t1 : 0 < j := by omega
      have HJ0 := Lib.hid hj0; clear hj0
      go_wp2_with fail
      refine (HP.out l[j] (List.getElem_mem hl) B _ _ _ _ _ (by omega) (RepV.below (fun i hi => hbel.block i (by omega)) _ gr)).mono ?_
      rintro e w3 ⟨rfl, b3⟩
      rw [(HEL.out j hl).1]
      have B3 := hbel.trans (b3.mono hsr)
      have hsz1 : (⟨(prV l[j]).toArray⟩ : ByteArray).size ≤ 20000000 := by rw [size_mk]; exact hvl
      generalize hpb : (⟨(prV l[j]).toArray⟩ : ByteArray) = pb at *
      have HPB := Lib.hid hpb
      clear hpb g0 g1 g2 g3 p0 p1 p2 p3 b3
      go_wp2_with fail
      go_roundw
      case rel => exact ⟨j + 1, by omega, by go_num, by
       rw [HTS.out, if_neg HJ0.out, ← HSB.out, ← HPB.out]
       refine congrArg Value.string (ByteArray.ext ?_)
       simp only [ByteArray.data_append]
       simp, B3⟩
      case measure => simp [intOf]; omega
    ·have hke : j = l.length := by omega
     have HSB2 : Hid ((⟨(91 :: prL true l).toArray⟩ : ByteArray) = sb) := by
      have := HSB.out
      rw [hke, List.take_length] at this
      exact this
     clear HSB hke
     go_wp2_with fail
     go_ret
     refine ⟨ret_ba ?_, B2.trans (hbel.mono hs2)⟩
     rw [HPR.out, HE.out, ← HSB2.out]
     apply ByteArray.ext
     simp only [ByteArray.data_append]
     simp
theorem refPrint_any (x : V) : RefPrintAt x := refPrint_of x (fun y _hy => refPrint_any y)
 termination_by SizeOf.sizeOf x
 decreasing_by
  have := List.sizeOf_lt_of_mem _hy
  cases x with
  | mk k n s l => simp only [V.mk.sizeOf_spec, V.list] at *; omega
end Go.Proofs.YtgjemmdhamkngaaGreatDoor
namespace Go.Proofs.YtgjemmdhamkngaaGreatDoor
open Go.RowKit
theorem sepL_mem_le (sep : List UInt8) : ∀ (l : List (List UInt8)) (x : List UInt8), x ∈ l → x.length ≤ (sepL sep l).length
 | [], x, h => by cases h
 | y :: l, x, h => by
  rw [sepL, List.length_append]
  rcases List.mem_cons.1 h with rfl | h
  ·omega
  ·have key : ∀ m : List (List UInt8), x ∈ m → x.length ≤ ((m.map fun y => sep ++ y).flatten).length := by
    intro m
    induction m with
    | nil => intro h; cases h
    | cons z m ih =>
     intro h
     simp only [List.map_cons, List.flatten_cons, List.length_append]
     rcases List.mem_cons.1 h with rfl | h
     ·omega
     ·have := ih h; omega
   have := key l h
   omega
theorem showB_list (l : List Tm) : ((l.map showB).map fun x => x.data.toList) = l.map showM := by
 rw [List.map_map]; apply List.map_congr_left; intro t _; simp [showB]
theorem joinedTm_any (l : List Tm) (s J : ByteArray) (v : Value) (b : Nat) (w : World) (h : OwnS w b v (l.map showB)) (hl : l.length ≤ 100) (hlen : (sepL s.data.toList (l.map showM)).length ≤ 140737488355328) (hJ : (⟨(sepL s.data.toList (l.map showM)).toArray⟩ : ByteArray) = J) :
  Calls Tryz.prog 44 #[v, .string s] w fun e w' => e = .returned (.string J) ∧ w = w' := by
 have h1 := joined_any (l.map showB) s v w h.rows (by rw [List.length_map]; exact hl) (by rw [showB_list]; exact hlen)
 rw [showB_list, hJ] at h1
 exact h1
set_option maxRecDepth 100000 in
set_option maxHeartbeats 8000000 in
theorem shown_of (t : Tm) (hP : ∀ y ∈ t.args, ShownAt y) : ShownAt t := by
 intro d0 S w c0 c1 c2 c3 c4 c5 c6 hS ht hr hle
 obtain ⟨d, rfl⟩ : ∃ d, d0 = d + 1 := by
  cases d0 with
  | zero => rw [rightM_zero] at hr; cases hr
  | succ d => exact ⟨d, rfl⟩
 have HP := Lib.hid hP; clear hP
 have HV := Lib.hid ht.value; have HL := Lib.hid ht.lst
 have HF0 : Hid (rightM (d + 1) t = if t.kind = 1 then varB t.name && (noneB t.val && t.args.isEmpty)
  else if t.kind = 2 then t.name.toList.isEmpty && (valB t.val && t.args.isEmpty)
  else if t.kind = 3 then noneB t.val && listB (fnArity (fnOf t.name)) (fnArity (fnOf t.name)) (rightM d) t.args
  else if t.kind = 4 then opB t.name && (noneB t.val && listB 2 2 (rightM d) t.args)
  else false) := by cases t; exact rightM_succ _ _ _ _ _
 have HSH : Hid (showM t = if t.kind = 1 then t.name.data.toList
  else if t.kind = 2 then printB t.val
  else if t.kind = 3 then t.name.data.toList ++ (40 :: (sepL [44] (t.args.map showM) ++ [41]))
  else if t.kind = 4 then 40 :: (sepL t.name.data.toList (t.args.map showM) ++ [41])
  else []) := by
  cases t
  exact showM_mk _ _ _ _
 obtain ⟨fa, fc, ga, gc, rfl, rfl, rfl, rfl, rfl, rfl, rfl⟩ := ht.form
 clear ht
 rw [HF0.out] at hr
 by_cases e1 : t.kind = 1
 ·have HF : Hid (showB t = t.name) := by show _ = _; rw [showB, HSH.out, if_pos e1]
  have k1 : (t.kind == 1) = true := by simp [e1]
  clear hr e1 hle
  go_enter Tryz.func56, Tryz.ntmps56
  go_wp2_with fail
  have x1 := boxM_new w (.int .i64 t.kind) (.string t.name) (.int .i64 t.val.kind) (.int .i64 t.val.num) (.string t.val.text) (.slice fa t.val.list.length fc) (.slice ga t.args.length gc)
  have b1 := below_alloc w (.cells #[.int .i64 t.kind, .string t.name, .int .i64 t.val.kind, .int .i64 t.val.num, .string t.val.text, .slice fa t.val.list.length fc, .slice ga t.args.length gc] 46)
  generalize w.alloc (.cells #[.int .i64 t.kind, .string t.name, .int .i64 t.val.kind, .int .i64 t.val.num, .string t.val.text, .slice fa t.val.list.length fc, .slice ga t.args.length gc] 46) = w1 at *
  have X1 := Lib.hid x1; have B1 := Lib.hid b1
  clear x1 b1
  obtain ⟨p0, p1, p2, p3, p4, p5, p6⟩ := X1.out.cells
  go_ret
  exact ⟨ret_ba HF.out.symm, B1.out⟩
 have k1 : (t.kind == 1) = false := by simp [e1]
 rw [if_neg e1] at hr
 by_cases e2 : t.kind = 2
 ·have HF : Hid (showB t = ⟨(printB t.val).toArray⟩) := by show _ = _; rw [showB, HSH.out, if_neg e1, if_pos e2]
  have k2 : (t.kind == 2) = true := by simp [e2]
  clear hr e1 e2 hle
  go_enter Tryz.func56, Tryz.ntmps56
  go_wp2_with fail
  have x1 := boxM_new w (.int .i64 t.kind) (.string t.name) (.int .i64 t.val.kind) (.int .i64 t.val.num) (.string t.val.text) (.slice fa t.val.list.length fc) (.slice ga t.args.length gc)
  have b1 := below_alloc w (.cells #[.int .i64 t.kind, .string t.name, .int .i64 t.val.kind, .int .i64 t.val.num, .string t.val.text, .slice fa t.val.list.length fc, .slice ga t.args.length gc] 46)
  generalize w.alloc (.cells #[.int .i64 t.kind, .string t.name, .int .i64 t.val.kind, .int .i64 t.val.num, .string t.val.text, .slice fa t.val.list.length fc, .slice ga t.args.length gc] 46) = w1 at *
  have X1 := Lib.hid x1; have B1 := Lib.hid b1
  clear x1 b1
  obtain ⟨p0, p1, p2, p3, p4, p5, p6⟩ := X1.out.cells
  refine (refPrint_any t.val w1.heap.size w1 _ _ _ _ (Nat.le_refl _) (RepG.on (fun k hk => Nat.lt_of_lt_of_le (hS k hk) B1.out.size) (fun k hk => B1.out.block k (hS k hk)) t.val HV.out)).mono ?_
  rintro e w2 ⟨rfl, hb⟩
  have B2 := Lib.hid (Below.step B1.out hb)
  clear hb
  go_wp2_with fail
  go_ret
  exact ⟨ret_ba HF.out.symm, B2.out⟩
 have k2 : (t.kind == 2) = false := by simp [e2]
 rw [if_neg e2] at hr
 by_cases e3 : t.kind = 3
 ·have k3 : (t.kind == 3) = true := by simp [e3]
  have hsh : showM t = t.name.data.toList ++ (40 :: (sepL [44] (t.args.map showM) ++ [41])) := by rw [HSH.out, if_neg e1, if_neg e2, if_pos e3]
  rw [if_pos e3, Bool.and_eq_true] at hr
  obtain ⟨g1, g2, g3⟩ := listB_bounds hr.2
  have har := fnArity_range (fnOf t.name)
  have hn : t.args.length ≤ 100 := by omega
  have HRA := Lib.hid g3
  have hsl := hle
  rw [hsh] at hsl
  simp only [List.length_append, List.length_cons, List.length_nil] at hsl
  have HSA : Hid (∀ y ∈ t.args, (showM y).length ≤ 140737488355328) := by
   show ∀ _, _
   intro y hy
   have := sepL_mem_le [44] (t.args.map showM) (showM y) (List.mem_map_of_mem hy)
   omega
  have HJL : Hid ((sepL (⟨#[44]⟩ : ByteArray).data.toList (t.args.map showM)).length ≤ 140737488355328) := by show (sepL [44] _).length ≤ _; omega
  obtain ⟨J, hJ⟩ : ∃ J : ByteArray, (⟨(sepL (⟨#[44]⟩ : ByteArray).data.toList (t.args.map showM)).toArray⟩ : ByteArray) = J := ⟨_, rfl⟩
  have HJ := Lib.hid hJ
  have hz1 : t.name.data.toList.length = t.name.size := by rw [Array.length_toList]; rfl
  have hz2 : (sepL [44] (t.args.map showM)).length = J.size := by rw [← hJ, size_mk]
  have hsum : t.name.size + J.size + 2 ≤ 140737488355328 := by omega
  have HF : Hid (showB t = t.name ++ ⟨#[40]⟩ ++ J ++ ⟨#[41]⟩) := by
   show _ = _
   rw [showB, hsh, ← hJ]
   apply ByteArray.ext
   simp only [ByteArray.data_append]
   simp
  have z1 := strAdd t.name ⟨#[40]⟩ (by show t.name.size + 1 ≤ _; omega)
  have z2 := strAdd (t.name ++ ⟨#[40]⟩) J (by rw [ByteArray.size_append]; show t.name.size + 1 + J.size ≤ _; omega)
  have z3 := strAdd (t.name ++ ⟨#[40]⟩ ++ J) ⟨#[41]⟩ (by rw [ByteArray.size_append, ByteArray.size_append]; show t.name.size + 1 + J.size + 1 ≤ _; omega)
  clear hr g1 g2 g3 har hsl hsh hz1 hz2 hJ e1 e2 e3 hle
  go_enter Tryz.func56, Tryz.ntmps56
  go_wp2_with fail
  have x1 := boxM_new w (.int .i64 t.kind) (.string t.name) (.int .i64 t.val.kind) (.int .i64 t.val.num) (.string t.val.text) (.slice fa t.val.list.length fc) (.slice ga t.args.length gc)
  have b1 := below_alloc w (.cells #[.int .i64 t.kind, .string t.name, .int .i64 t.val.kind, .int .i64 t.val.num, .string t.val.text, .slice fa t.val.list.length fc, .slice ga t.args.length gc] 46)
  generalize w.alloc (.cells #[.int .i64 t.kind, .string t.name, .int .i64 t.val.kind, .int .i64 t.val.num, .string t.val.text, .slice fa t.val.list.length fc, .slice ga t.args.length gc] 46) = w1 at *
  have X1 := Lib.hid x1; have B1 := Lib.hid b1
  clear x1 b1
  obtain ⟨p0, p1, p2, p3, p4, p5, p6⟩ := X1.out.cells
  generalize w.heap.size = bt at X1 ⊢
  have HK := Lib.hid (Below.drew (Below.refl w1.heap.size w1))
  go_region_held3 (fun w' => w'.cell? ⟨bt, 0, none⟩ = some (.int .i64 t.kind) ∧ w'.cell? ⟨bt, 1, none⟩ = some (.string t.name) ∧ w'.cell? ⟨bt, 2, none⟩ = some (.int .i64 t.val.kind) ∧ w'.cell? ⟨bt, 3, none⟩ = some (.int .i64 t.val.num) ∧ w'.cell? ⟨bt, 4, none⟩ = some (.string t.val.text) ∧ w'.cell? ⟨bt, 5, none⟩ = some (.slice fa t.val.list.length fc) ∧ w'.cell? ⟨bt, 6, none⟩ = some (.slice ga t.args.length gc))
   (first | exact ⟨(X1.out.on HK.out).cells.1, (X1.out.on HK.out).cells.2.1, (X1.out.on HK.out).cells.2.2.1, (X1.out.on HK.out).cells.2.2.2.1, (X1.out.on HK.out).cells.2.2.2.2.1, (X1.out.on HK.out).cells.2.2.2.2.2.1, (X1.out.on HK.out).cells.2.2.2.2.2.2⟩ | exact ⟨(X1.out.on HBP.out).cells.1, (X1.out.on HBP.out).cells.2.1, (X1.out.on HBP.out).cells.2.2.1, (X1.out.on HBP.out).cells.2.2.2.1, (X1.out.on HBP.out).cells.2.2.2.2.1, (X1.out.on HBP.out).cells.2.2.2.2.2.1, (X1.out.on HBP.out).cells.2.2.2.2.2.2⟩)
   (first
    | (go_at_call 47; refine (printed_any t.args HP.out d S _ _ (fun k hk => Nat.lt_of_lt_of_le (hS k hk) (Nat.le_trans B1.out.size HK.out.size)) (RepMs.on (fun _ h => h) (fun k hk => (Below.step B1.out HK.out).block k (hS k hk)) HL.out) HRA.out HSA.out (by omega)).mono ?_; rintro e wp ⟨v, rfl, hov, hbp⟩; have OV := Lib.hid hov; have HBP := Lib.hid (Below.step HK.out hbp); clear hov hbp)
    | (go_at_call 44; refine (joinedTm_any t.args ⟨#[44]⟩ J _ _ _ OV.out (by omega) HJL.out HJ.out).mono ?_; rintro e w' ⟨rfl, rfl⟩))
  go_wp2_with fail
  go_ret
  exact ⟨ret_ba HF.out.symm, Below.step B1.out HBP.out⟩
 have k3 : (t.kind == 3) = false := by simp [e3]
 rw [if_neg e3] at hr
 by_cases e4 : t.kind = 4
 case neg => rw [if_neg e4] at hr; cases hr
 have hsh : showM t = 40 :: (sepL t.name.data.toList (t.args.map showM) ++ [41]) := by rw [HSH.out, if_neg e1, if_neg e2, if_neg e3, if_pos e4]
 rw [if_pos e4, Bool.and_eq_true, Bool.and_eq_true] at hr
 obtain ⟨g1, g2, g3⟩ := listB_bounds hr.2.2
 have hn : t.args.length ≤ 100 := by omega
 have HRA := Lib.hid g3
 have hsl := hle
 rw [hsh] at hsl
 simp only [List.length_append, List.length_cons, List.length_nil] at hsl
 have HSA : Hid (∀ y ∈ t.args, (showM y).length ≤ 140737488355328) := by
  show ∀ _, _
  intro y hy
  have := sepL_mem_le t.name.data.toList (t.args.map showM) (showM y) (List.mem_map_of_mem hy)
  omega
 have HJL : Hid ((sepL t.name.data.toList (t.args.map showM)).length ≤ 140737488355328) := by show _ ≤ _; omega
 obtain ⟨J, hJ⟩ : ∃ J : ByteArray, (⟨(sepL t.name.data.toList (t.args.map showM)).toArray⟩ : ByteArray) = J := ⟨_, rfl⟩
 have HJ := Lib.hid hJ
 have hz2 : (sepL t.name.data.toList (t.args.map showM)).length = J.size := by rw [← hJ, size_mk]
 have hsum : J.size + 2 ≤ 140737488355328 := by omega
 have HF : Hid (showB t = ⟨#[40]⟩ ++ J ++ ⟨#[41]⟩) := by
  show _ = _
  rw [showB, hsh, ← hJ]
  apply ByteArray.ext
  simp only [ByteArray.data_append]
  simp
 have z1 := strAdd ⟨#[40]⟩ J (by show 1 + J.size ≤ _; omega)
 have z2 := strAdd (⟨#[40]⟩ ++ J) ⟨#[41]⟩ (by rw [ByteArray.size_append]; show 1 + J.size + 1 ≤ _; omega)
 clear hr g1 g2 g3 hsl hsh hz2 hJ e1 e2 e3 e4 hle
 go_enter Tryz.func56, Tryz.ntmps56
 go_wp2_with fail
 have x1 := boxM_new w (.int .i64 t.kind) (.string t.name) (.int .i64 t.val.kind) (.int .i64 t.val.num) (.string t.val.text) (.slice fa t.val.list.length fc) (.slice ga t.args.length gc)
 have b1 := below_alloc w (.cells #[.int .i64 t.kind, .string t.name, .int .i64 t.val.kind, .int .i64 t.val.num, .string t.val.text, .slice fa t.val.list.length fc, .slice ga t.args.length gc] 46)
 generalize w.alloc (.cells #[.int .i64 t.kind, .string t.name, .int .i64 t.val.kind, .int .i64 t.val.num, .string t.val.text, .slice fa t.val.list.length fc, .slice ga t.args.length gc] 46) = w1 at *
 have X1 := Lib.hid x1; have B1 := Lib.hid b1
 clear x1 b1
 obtain ⟨p0, p1, p2, p3, p4, p5, p6⟩ := X1.out.cells
 generalize w.heap.size = bt at X1 ⊢
 have HK := Lib.hid (Below.drew (Below.refl w1.heap.size w1))
 go_region_held3 (fun w' => w'.cell? ⟨bt, 0, none⟩ = some (.int .i64 t.kind) ∧ w'.cell? ⟨bt, 1, none⟩ = some (.string t.name) ∧ w'.cell? ⟨bt, 2, none⟩ = some (.int .i64 t.val.kind) ∧ w'.cell? ⟨bt, 3, none⟩ = some (.int .i64 t.val.num) ∧ w'.cell? ⟨bt, 4, none⟩ = some (.string t.val.text) ∧ w'.cell? ⟨bt, 5, none⟩ = some (.slice fa t.val.list.length fc) ∧ w'.cell? ⟨bt, 6, none⟩ = some (.slice ga t.args.length gc))
  (first | exact ⟨(X1.out.on HK.out).cells.1, (X1.out.on HK.out).cells.2.1, (X1.out.on HK.out).cells.2.2.1, (X1.out.on HK.out).cells.2.2.2.1, (X1.out.on HK.out).cells.2.2.2.2.1, (X1.out.on HK.out).cells.2.2.2.2.2.1, (X1.out.on HK.out).cells.2.2.2.2.2.2⟩ | exact ⟨(X1.out.on HBP.out).cells.1, (X1.out.on HBP.out).cells.2.1, (X1.out.on HBP.out).cells.2.2.1, (X1.out.on HBP.out).cells.2.2.2.1, (X1.out.on HBP.out).cells.2.2.2.2.1, (X1.out.on HBP.out).cells.2.2.2.2.2.1, (X1.out.on HBP.out).cells.2.2.2.2.2.2⟩)
  (first
   | (go_at_call 47; refine (printed_any t.args HP.out d S _ _ (fun k hk => Nat.lt_of_lt_of_le (hS k hk) (Nat.le_trans B1.out.size HK.out.size)) (RepMs.on (fun _ h => h) (fun k hk => (Below.step B1.out HK.out).block k (hS k hk)) HL.out) HRA.out HSA.out (by omega)).mono ?_; rintro e wp ⟨v, rfl, hov, hbp⟩; have OV := Lib.hid hov; have HBP := Lib.hid (Below.step HK.out hbp); clear hov hbp)
   | (go_at_call 44; refine (joinedTm_any t.args t.name J _ _ _ OV.out (by omega) HJL.out HJ.out).mono ?_; rintro e w' ⟨rfl, rfl⟩))
 go_wp2_with fail
 go_ret
 exact ⟨ret_ba HF.out.symm, Below.step B1.out HBP.out⟩
theorem shown_any (t : Tm) : ShownAt t := by
 cases t with
 | mk k s x l => exact shown_of (.mk k s x l) (fun y hy => shown_any y)
 termination_by SizeOf.sizeOf t
 decreasing_by
  have := List.sizeOf_lt_of_mem (show y ∈ l from hy)
  simp only [Tm.mk.sizeOf_spec]
  omega
end Go.Proofs.YtgjemmdhamkngaaGreatDoor
