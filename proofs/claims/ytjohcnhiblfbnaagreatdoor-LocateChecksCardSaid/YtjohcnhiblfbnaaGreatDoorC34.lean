/-
  Open, LawPost, LawBase, LawLChecks, OpenFour, OpenSix, CardLChecks
-/
import Derived.Test.YtjohcnhiblfbnaaGreatDoorC01
import Derived.Test.YtjohcnhiblfbnaaGreatDoorC03
import Derived.Test.YtjohcnhiblfbnaaGreatDoorRows
import Derived.Test.YtjohcnhiblfbnaaGreatDoorC14
import Derived.Test.YtjohcnhiblfbnaaGreatDoorCards
import Derived.Test.YtjohcnhiblfbnaaGreatDoorTie
import Derived.Test.YtjohcnhiblfbnaaGreatDoorC24
import Derived.Test.YtjohcnhiblfbnaaGreatDoorC27
import Derived.Test.YtjohcnhiblfbnaaGreatDoorC33
import Derived.Test.YtjohcnhiblfbnaaGreatDoorC04
import Derived.Test.YtjohcnhiblfbnaaGreatDoorC06
import Derived.ProofKit
import Derived.Lib.SmallJoins
import Derived.Deep.Slices
import Derived.OpenShut
import Derived.Deep.DeepHandedRow
import Derived.Lib.LaidTab
import Derived.Deep.Strs
import Derived.Laws.IdiomArrays
namespace Go.Proofs.YtjohcnhiblfbnaaGreatDoor
open Go.ChangeShapes Go.WideShapes Go.ChangeAt Go.RowKit Go.Deep Go.Joins
theorem cellsInt : Tryz.prog.cellsOf 3 = 1 := by kernel_rfl
theorem i64_wf {n : Int} (h : (Lit.int .i64 n).wf = true) : I64 n := bounds_i64 h
section
variable {H : Type} {enc : TypeId × Value → H} {W : World}
theorem weightsAll_mem {P : Program} {e : TypeId} {ds : List (DataW H)} {d : DataW H} (h : d ∈ ds) (n : Nat) (hn : n ∈ d.weights P e) : n ∈ DataW.weightsAll P e ds := by
 induction ds with
 | nil => cases h
 | cons x r ih =>
  rw [DataW.weightsAll, List.mem_append]
  rcases List.mem_cons.1 h with rfl | h
  ·exact Or.inl hn
  ·exact Or.inr (ih h)
def Fits (P : Program) (t : TypeId) (d : DataW H) : Prop := ∀ n ∈ d.weights P t, n ≤ reachBytes
theorem cell_lt {w : World} {a : Addr} {v : Value} (h : w.cell? a = some v) : a.block < w.heap.size := by
 by_cases hlt : a.block < w.heap.size
 ·exact hlt
 ·have hn : w.heap[a.block]? = none := by simp; omega
  simp [World.cell?, hn] at h
theorem sizeOf_mem {D : Nat → DataW H} {len i : Nat} (h : i < len) {sp : List (DataW H)} : SizeOf.sizeOf (D i) < SizeOf.sizeOf (DataW.slice ((List.range len).map D) sp) := by
 have := List.sizeOf_lt_of_mem (List.mem_map_of_mem (f := D) (List.mem_range.2 h))
 simp only [DataW.slice.sizeOf_spec]
 omega
set_option maxRecDepth 100000 in
end
end Go.Proofs.YtjohcnhiblfbnaaGreatDoor
namespace Go.Proofs.YtjohcnhiblfbnaaGreatDoor
open Go.ChangeShapes Go.WideShapes Go.ChangeAt Go.RowKit
theorem own : ownKnob Tryz.prog.godebug = none := by kernel_rfl
theorem laidOut : laidOutB Tryz.prog = true := by kernel_rfl
section
variable {H : Type} {enc : TypeId × Value → H}
theorem trodAll_below {W W' : World} (hb : Below W.heap.size W W') : ∀ (ts : List TypeId) (vs : List Value) (ds : List (DataW H)) (ps : List MemPlace), DataW.TrodAll enc Tryz.prog W 0 (fun _ => true) true ts vs ds ps →
  (∀ t ∈ ts, Tryz.prog.readableRec t = true ∧ t < Tryz.prog.types.size) → (∀ x ∈ ps, x.block < W.heap.size) → DataW.TrodAll enc Tryz.prog W' 0 (fun b => decide (b < W.heap.size)) true ts vs ds ps
 | [], [], [], ps, h, _, _ => h
 | t :: ts, v :: vs, d :: ds, ps, h, ht, hp => by
  obtain ⟨p, q, h1, h2, rfl⟩ := h
  obtain ⟨r1, r2⟩ := ht t (by simp)
  exact ⟨p, q, Below.trod laidOut r1 r2 h1 hb (fun x hx => hp x (by simp [hx])), trodAll_below hb ts vs ds q h2 (fun t' h' => ht t' (by simp [h'])) (fun x hx => hp x (by simp [hx])), rfl⟩
 | [], _ :: _, _, _, h, _, _ => by cases h
 | _ :: _, [], _, _, h, _, _ => by cases h
 | [], [], _ :: _, _, h, _, _ => by cases h
 | _ :: _, _ :: _, [], _, h, _, _ => by cases h
theorem law_post {fn : Func} {s : ChangeSpec} {W W' : World} {args : Array Value} {ds gs : List (DataW H)} {before : List MemPlace}
  (hvars : s.vars = []) (hres : fn.resultTypes = #[4]) (hread : ∀ t ∈ fn.params.toList, Tryz.prog.readableRec t = true ∧ t < Tryz.prog.types.size)
  (hW : DataW.Whole enc Tryz.prog fn.params.toList s.vars false W args.toList ds gs before)
  (hs : s.fn H (ds ++ gs) = { results := [.lit (.bool true)], args := ds })
  (hb : Below W.heap.size W W') : s.post enc Tryz.prog fn false true false false W args (.bool true) W' := by
 have hW' := hW
 obtain ⟨p, q, hA, hV, rfl, hfz, hnd⟩ := hW
 rw [hvars] at hV
 obtain ⟨rfl, rfl⟩ := trodVars_none hV
 refine ⟨ds, [], p ++ [], [], p, [], hW', ?_, ?_, ?_, hb.frame _, fun h => by cases h⟩
 ·rw [hres, hs]
  exact trodAll_cons_mk (shut_bool Tryz.underlying4 _) trodAll_mk0
 ·rw [hs]
  exact trodAll_below hb _ _ _ _ hA hread (fun x hx => hW'.lt x (by simp [hx]))
 ·rw [hs, hvars]
  rfl
theorem fits_cons {t : TypeId} {ts : List TypeId} {d : DataW H} {ds : List (DataW H)} (h : (DataW.weightsEach Tryz.prog (t :: ts) (d :: ds)).all (· ≤ reachBytes) = true) :
  Fits Tryz.prog t d ∧ (DataW.weightsEach Tryz.prog ts ds).all (· ≤ reachBytes) = true := by
 rw [DataW.weightsEach, List.all_append, Bool.and_eq_true] at h
 exact ⟨fun n hn => by simpa using (List.all_eq_true.1 h.1) n hn, h.2⟩
end
end Go.Proofs.YtjohcnhiblfbnaaGreatDoor
namespace Go.Proofs.YtjohcnhiblfbnaaGreatDoor
open Go.ChangeShapes Go.WideShapes Go.ChangeAt Go.RowKit
theorem gTabType : (Tryz.prog.globals[0]?).map (·.type) = some 221 := by kernel_rfl
theorem cellsTab : Tryz.prog.cellsOf 221 = 20 := by kernel_rfl
theorem cellsU64 : Tryz.prog.cellsOf 214 = 1 := by kernel_rfl
theorem tab_of_laid {P : Program} {W : World} {name : String} {k : IntKind} {zs : List Int} {g : Nat} {t e : TypeId} {n : Nat}
  (hg : P.globalNamed name = some g) (hty : (P.globals[g]?).map (·.type) = some t) (ht : P.underlying t = some (.array n e)) (he : P.underlying e = some (.int k)) (hce : P.cellsOf e = 1) (hct : P.cellsOf t = n) :
  ∀ (laid : List (String × DataW Unit)) (ps : List MemPlace), DataW.LaidVars P W laid ps → (name, Lib.tabData k zs) ∈ laid → Lib.TabIs P W name k zs
 | [], _, _, hm => by cases hm
 | x :: rest, ps, h, hm => by
  obtain ⟨g', t', cs, fuel, p, q, hg', ht', hvar, hd, hq, _⟩ := h
  rcases List.mem_cons.1 hm with rfl | hm
  ·obtain rfl := Option.some.inj (hg.symm.trans hg')
   obtain rfl := Option.some.inj (hty.symm.trans ht')
   unfold Lib.TabIs
   rw [hvar, ← Lib.cells_of_tab ht he hce hct hd]
  ·exact tab_of_laid hg hty ht he hce hct rest q hq hm
theorem tabOk_of_laid {W : World} {laid : List (String × DataW Unit)} (h : laidMet Tryz.prog laid W) (hm : ("internal/strconv.uint64pow10", Rows.laid_internal_strconv_uint64pow10) ∈ laid) : TabOk W := by
 obtain ⟨ps, h1, _⟩ := h
 exact tab_of_laid gTab gTabType Tryz.underlying221 Tryz.underlying214 cellsU64 cellsTab laid ps h1 hm
theorem tab_lt {W : World} (h : TabOk W) : 0 < W.heap.size := by
 have := Lib.TabIs.cell h gTab 0 (by decide)
 exact cell_lt this
def setTab (w : World) (g : Nat) (cs : Array Value) : World :=
 { w with heap := w.heap.modify g fun
   | .cells _ t frozen => .cells cs t frozen
   | o => o }
noncomputable def laidWorld (os : Os) : World :=
 setTab (setTab (setTab (World.holding Tryz.prog os ⟨#[], #[], []⟩)
  0 #[.int .u64 1, .int .u64 10, .int .u64 100, .int .u64 1000, .int .u64 10000, .int .u64 100000, .int .u64 1000000, .int .u64 10000000, .int .u64 100000000, .int .u64 1000000000, .int .u64 10000000000, .int .u64 100000000000, .int .u64 1000000000000, .int .u64 10000000000000, .int .u64 100000000000000, .int .u64 1000000000000000, .int .u64 10000000000000000, .int .u64 100000000000000000, .int .u64 1000000000000000000, .int .u64 10000000000000000000])
  1 #[.int .u8 0, .int .u8 1, .int .u8 28, .int .u8 2, .int .u8 29, .int .u8 14, .int .u8 24, .int .u8 3, .int .u8 30, .int .u8 22, .int .u8 20, .int .u8 15, .int .u8 25, .int .u8 17, .int .u8 4, .int .u8 8, .int .u8 31, .int .u8 27, .int .u8 13, .int .u8 23, .int .u8 21, .int .u8 19, .int .u8 16, .int .u8 7, .int .u8 26, .int .u8 12, .int .u8 18, .int .u8 6, .int .u8 11, .int .u8 5, .int .u8 10, .int .u8 9])
  2 #[.int .u8 0, .int .u8 1, .int .u8 56, .int .u8 2, .int .u8 57, .int .u8 49, .int .u8 28, .int .u8 3, .int .u8 61, .int .u8 58, .int .u8 42, .int .u8 50, .int .u8 38, .int .u8 29, .int .u8 17, .int .u8 4, .int .u8 62, .int .u8 47, .int .u8 59, .int .u8 36, .int .u8 45, .int .u8 43, .int .u8 51, .int .u8 22, .int .u8 53, .int .u8 39, .int .u8 33, .int .u8 30, .int .u8 24, .int .u8 18, .int .u8 12, .int .u8 5, .int .u8 63, .int .u8 55, .int .u8 48, .int .u8 27, .int .u8 60, .int .u8 41, .int .u8 37, .int .u8 16, .int .u8 46, .int .u8 35, .int .u8 44, .int .u8 21, .int .u8 52, .int .u8 32, .int .u8 23, .int .u8 11, .int .u8 54, .int .u8 26, .int .u8 40, .int .u8 15, .int .u8 34, .int .u8 20, .int .u8 31, .int .u8 10, .int .u8 25, .int .u8 14, .int .u8 19, .int .u8 9, .int .u8 13, .int .u8 8, .int .u8 7, .int .u8 6]
end Go.Proofs.YtjohcnhiblfbnaaGreatDoor
namespace Go.Proofs.YtjohcnhiblfbnaaGreatDoor.locateChecks
open Go.RowKit
set_option maxRecDepth 100000 in
set_option maxHeartbeats 8000000 in
theorem walk (rules : List (List Rw)) (facts : List Rw) (W : World) (va vb : Value) (htab : TabOk W) (ga : RepRwss (fun k => k < W.heap.size) W rules va) (gb : RepRws (fun k => k < W.heap.size) W facts vb) :
  Calls Tryz.prog 5 #[va, vb] W fun e W' => e = .returned (.bool true) ∧ Below W.heap.size W W' := by
 have GA := Lib.hid ga; have GB := Lib.hid gb; have HT := Lib.hid htab; have HG : Hid (0 < W.heap.size) := tab_lt htab
 clear ga gb htab
 go_enter Tryz.func5, Tryz.ntmps5
 go_wp2_with fail
 refine (awake7_any W HG.out HT.out).mono ?_
 rintro e w1 ⟨rfl, hb⟩
 have B1 := Lib.hid hb
 clear hb
 go_wp2_with fail
 refine (program_any rules facts (fun k => k < W.heap.size) w1 va vb (fun k hk => Nat.lt_of_lt_of_le hk B1.out.size) (SlG.on (fun _ h => h) (fun k hk => B1.out.block k hk) (fun x _ c h => SlG.on (fun _ h => h) (fun k hk => B1.out.block k hk) (fun _ _ _ h => h) h) GA.out) (SlG.on (fun _ h => h) (fun k hk => B1.out.block k hk) (fun _ _ _ h => h) GB.out)).mono ?_
 rintro e w2 ⟨v0, v1, v2, rfl, hrep, hb⟩
 have HLN : Hid ((progZ rules facts).rules.length ≤ 6) := by show _ ≤ _; show (rulesTo rules _).length ≤ 6; rw [rulesTo_len]; omega
 generalize progZ rules facts = q at *
 obtain ⟨d0, d1, rfl⟩ := SlG.form hrep.1
 obtain ⟨f0, f1, rfl⟩ := SlG.form hrep.2.1
 obtain ⟨r0, r1, rfl⟩ := SlG.form hrep.2.2
 have HRP := Lib.hid hrep; have B2 := Lib.hid (Below.step B1.out hb)
 clear hrep hb B1 GA GB
 go_upto_region 3 with fail
 have mk := boxPr_new w2 (.slice d0 q.decls.length d1) (.slice f0 q.facts.length f1) (.slice r0 q.rules.length r1)
 have da := below_alloc w2 (.cells #[.slice d0 q.decls.length d1, .slice f0 q.facts.length f1, .slice r0 q.rules.length r1] 26)
 generalize w2.alloc (.cells #[.slice d0 q.decls.length d1, .slice f0 q.facts.length f1, .slice r0 q.rules.length r1] 26) = w3 at *
 have GQ : Hid (RepPr (fun k => k < w2.heap.size) w3 q (.slice d0 q.decls.length d1) (.slice f0 q.facts.length f1) (.slice r0 q.rules.length r1)) := RepPr.on (fun k hk => hk.2) (fun k hk => da.block k hk.2) HRP.out
 have B3 := Lib.hid (Below.step B2.out da)
 have K3 : Hid (w2.heap.size ≤ w3.heap.size) := da.size
 obtain ⟨k6, hk6⟩ : ∃ k, w2.heap.size = k := ⟨_, rfl⟩
 rw [hk6] at mk GQ K3 ⊢
 have X3 := Lib.hid mk
 clear mk da hk6 HRP B2
 obtain ⟨o0, o1, o2⟩ := X3.out.cells
 go_wp2_with fail
 refine (check_any q (fun k => k < k6) w3 _ _ _ (fun k hk => Nat.lt_of_lt_of_le hk K3.out) GQ.out).mono ?_
 rintro e w4 ⟨rfl, hb⟩
 have X4 := Lib.hid (X3.out.on hb); have B4 := Lib.hid (Below.step B3.out hb)
 have K4 : Hid (k6 ≤ w4.heap.size) := Nat.le_trans K3.out hb.size
 have G4 : Hid (RepPr (fun k => k < k6) w4 q (.slice d0 q.decls.length d1) (.slice f0 q.facts.length f1) (.slice r0 q.rules.length r1)) := RepPr.on (fun _ h => h) (fun k hk => hb.block k (Nat.lt_of_lt_of_le hk K3.out)) GQ.out
 clear hb GQ X3 B3 K3 o0 o1 o2
 obtain ⟨o0, o1, o2⟩ := X4.out.cells
 go_wp2_with fail
 refine (locCheck_any q (fun k => k < k6) w4 _ _ _ (fun k hk => Nat.lt_of_lt_of_le hk K4.out) (Nat.lt_of_lt_of_le HG.out B4.out.size) (TabOk.below HT.out HG.out B4.out) G4.out).mono ?_
 rintro e w5 ⟨rfl, hb⟩
 have X5 := Lib.hid (X4.out.on hb); have B5 := Lib.hid (Below.step B4.out hb)
 have K5 : Hid (k6 ≤ w5.heap.size) := Nat.le_trans K4.out hb.size
 have G5 : Hid (RepPr (fun k => k < k6) w5 q (.slice d0 q.decls.length d1) (.slice f0 q.facts.length f1) (.slice r0 q.rules.length r1)) := RepPr.on (fun _ h => h) (fun k hk => hb.block k (Nat.lt_of_lt_of_le hk K4.out)) G4.out
 clear hb G4 X4 B4 K4 o0 o1 o2
 have HLZ : Hid (locZ q = if (checkZ q).1 = 0 then placesErr q.rules 0 else checkZ q) := rfl
 generalize checkZ q = cz at *
 obtain ⟨ce, cn⟩ := cz
 by_cases hz : ce = 0
 ·subst hz
  have HE : Hid (locZ q = placesErr q.rules 0) := by show _ = _; rw [HLZ.out, if_pos rfl]
  generalize locZ q = lz at *
  obtain ⟨le, ln⟩ := lz
  go_wp2_with fail
  go_loopw [11] (fun i wr => ∃ k : Nat, k ≤ q.rules.length ∧ i = .int .i64 k ∧ Hid ((le, ln) = placesErr (q.rules.drop k) k) ∧ Hid (Below w5.heap.size w5 wr)) (fun i _ => q.rules.length - (intOf i).toNat)
  case atStart => exact ⟨0, Nat.zero_le _, rfl, HE.out, Below.refl _ _⟩
  case round =>
   obtain ⟨k, hk, rfl, hrec, hbel⟩ := hrel
   obtain ⟨o0, o1, o2⟩ := (X5.out.on hbel.out).cells
   by_cases hl : k < q.rules.length
   ·have i1 : decide ((k : Int) < (q.rules.length : Int)) = true := decide_eq_true (by omega)
    have i2 : decide (k < q.rules.length) = true := decide_eq_true hl
    have i3 : (0 : Int) ≤ (k : Int) := Int.natCast_nonneg k
    have i4 : (k : Int) < (q.rules.length : Int) := by omega
    have P5 := Lib.hid (RepPr.on (fun _ h => h) (fun k (hk : k < k6) => hbel.out.block k (Nat.lt_of_lt_of_le hk K5.out)) G5.out)
    obtain ⟨-, -, lb, lo, xa, xc, ya, yc, rfl, hSb, g0, g1, g2, g3, g4, g5, g⟩ := RepRus.at P5.out.2.2 k hl
    have HD := Lib.hid (List.drop_eq_getElem_cons hl)
    have GR := Lib.hid g
    have HKL := Lib.hid hl
    have HBW := Lib.hid (Below.step B5.out hbel.out)
    have HSZ : Hid (k6 ≤ wr.heap.size) := Nat.le_trans K5.out hbel.out.size
    clear g hSb P5
    generalize q.rules[k] = r at *
    clear hl hk
    go_wp2_with fail
    refine (locPlace_any r (fun k => k < k6) wr _ _ _ _ _ _ (fun j hj => Nat.lt_of_lt_of_le hj HSZ.out) (Nat.lt_of_lt_of_le HG.out HBW.out.size) (TabOk.below HT.out HG.out HBW.out) GR.out).mono ?_
    rintro e w6 ⟨rfl, hb6⟩
    have HB6 := Lib.hid (Below.step hbel.out hb6)
    have HPE : Hid (placesErr (r :: q.rules.drop (k + 1)) k = if (placeZ r).2 = true then placesErr (q.rules.drop (k + 1)) (k + 1) else (70, (k : Int))) := by show _ = _; rw [placesErr]
    clear hb6 g0 g1 g2 g3 g4 g5 o0 o1 o2 i1 i2 i3 i4 HBW HSZ
    generalize hpz : placeZ r = pz at *
    clear hpz
    obtain ⟨⟨bf, bt, bh⟩, bok⟩ := pz
    rw [plRet]
    have hb7 := below_alloc w6 (.cells #[.string bf, .string bt, .string bh] 37)
    have HB7 := Lib.hid (Below.step HB6.out hb7)
    clear hb7
    cases bok with
    | true =>
     have HF : Hid ((le, ln) = placesErr (q.rules.drop (k + 1)) (k + 1)) := by show _ = _; rw [hrec.out, HD.out, HPE.out, if_pos rfl]
     go_wp2_with fail
     go_roundw
     case rel => exact ⟨k + 1, HKL.out, by have := HKL.out; have := HLN.out; rw [show wrap64 ((k : Int) + 1) = ((k + 1 : Nat) : Int) by unfold wrap64; omega], HF, HB7.out⟩
     case measure => have := HKL.out; have := HLN.out; rw [show wrap64 ((k : Int) + 1) = ((k + 1 : Nat) : Int) by unfold wrap64; omega]; simp only [intOf]; omega
    | false =>
     have HF : Hid ((le, ln) = (70, (k : Int))) := by show _ = _; rw [hrec.out, HD.out, HPE.out, if_neg (by simp)]
     obtain ⟨rfl, rfl⟩ : le = 70 ∧ ln = (k : Int) := by simpa using HF.out
     have j1 : ((k : Int) == (k : Int)) = true := by simp
     go_wp2_with fail
     go_ret
     exact ⟨rfl, Below.step B5.out HB7.out⟩
   ·have i1 : decide ((k : Int) < (q.rules.length : Int)) = false := decide_eq_false (by omega)
    have i2 : decide (k < q.rules.length) = false := decide_eq_false hl
    have HF : Hid ((le, ln) = (0, -1)) := by show _ = _; rw [hrec.out, List.drop_of_length_le (by omega), placesErr]
    obtain ⟨rfl, rfl⟩ : le = 0 ∧ ln = -1 := by simpa using HF.out
    go_wp2_with fail
    go_ret
    exact ⟨rfl, Below.step B5.out hbel.out⟩
 ·have HE : Hid (locZ q = (ce, cn)) := by show _ = _; rw [HLZ.out, if_neg hz]
  have hz1 : (ce == 0) = false := by simp [hz]
  have hz2 : (ce != 0) = true := by simp [hz]
  rw [HE.out]
  clear hz
  have j1 : (ce == ce) = true := by simp
  have j2 : (cn == cn) = true := by simp
  go_wp2_with fail
  go_ret
  exact ⟨rfl, B5.out⟩
end Go.Proofs.YtjohcnhiblfbnaaGreatDoor.locateChecks
namespace Go.Proofs.YtjohcnhiblfbnaaGreatDoor
open Go.ChangeShapes Go.WideShapes Go.ChangeAt Go.RowKit Go.Deep Go.Joins
section
variable {H : Type} {enc : TypeId × Value → H} {W : World}
theorem fits_slice {st et : TypeId} {bytes : Nat} (hu : Tryz.prog.underlying st = some (.slice et)) (hb : Tryz.prog.bytesOf et = bytes) {elems spare : List (DataW H)} (h : Fits Tryz.prog st (.slice elems spare)) : (elems.length + spare.length) * bytes ≤ 140737488351232 ∧ ∀ d ∈ elems, Fits Tryz.prog et d := by
 simp only [Fits, DataW.weights, hu, hb] at h
 refine ⟨h _ (List.mem_cons_self), fun d hd n hn => h n (List.mem_cons_of_mem _ (List.mem_append_left _ (weightsAll_mem hd n hn)))⟩
set_option maxRecDepth 100000 in
theorem slg_of_trod {α : Type} {st et : TypeId} {n bytes : Nat} (R : α → (Nat → Value) → Prop) (x0 : α) (hu : Tryz.prog.underlying st = some (.slice et)) (hc : Tryz.prog.cellsOf et = n) (hb : Tryz.prog.bytesOf et = bytes) (hn : 0 < n)
  (d : DataW H) (fuel : Nat) (v : Value) (ps : List MemPlace) (h : DataW.trod enc Tryz.prog W 0 (fun _ => true) true fuel st [v] = some (d, ps)) (hf : Fits Tryz.prog st d)
  (hel : ∀ (d' : DataW H) (fuel' : Nat) (cs : List Value) (ps' : List MemPlace), SizeOf.sizeOf d' < SizeOf.sizeOf d → DataW.trod enc Tryz.prog W 0 (fun _ => true) true fuel' et cs = some (d', ps') → Fits Tryz.prog et d' → ∃ (x : α) (c : Nat → Value), (∀ j, j < n → cs[j]? = some (c j)) ∧ R x c) :
  ∃ l, SlG (fun k => k < W.heap.size) W n bytes R l v ∧ l.length * bytes ≤ 140737488351232 := by
 rcases open_slice hu h with ⟨hcs, hx⟩ | ⟨a, len, cap, mm, nf, D, Pl, hcs, _, hl, hm, hmm, hx, hall⟩
 ·simp only [List.cons.injEq, and_true] at hcs
  subst hcs
  exact ⟨[], ⟨none, 0, 0, 0, rfl, Nat.le_refl _, by simp, fun h => by omega, fun h => by simp at h, fun i hi => by simp at hi⟩, by simp⟩
 ·simp only [List.cons.injEq, and_true] at hcs
  subst hcs
  simp only [if_true] at hmm
  subst hmm
  simp only [Prod.mk.injEq] at hx
  obtain ⟨hd, _⟩ := hx
  rw [hc] at hall
  have hfv := hf
  rw [hd] at hfv
  obtain ⟨hcap, hfe⟩ := fits_slice hu hb hfv
  have hcap' : mm * bytes ≤ 140737488351232 := by
   simp only [List.length_map, List.length_range] at hcap
   have : len + (mm - len) = mm := by omega
   rw [this] at hcap
   exact hcap
  have hsz : ∀ i, i < len → SizeOf.sizeOf (D i) < SizeOf.sizeOf d := fun i hi => by rw [hd]; exact sizeOf_mem hi
  have hspot : 0 < mm → a.spot = none := fun h0 => by
   obtain ⟨cs', g1, g2⟩ := hall 0 h0
   obtain ⟨_, hlen, hcell⟩ := World.cells?_some g1
   have hc0 : cs'[0]? = some (cs'[0]'(by omega)) := List.getElem?_eq_getElem _
   have := World.cell?_spot ((hcell 0 hn).trans hc0)
   simpa [Addr.add] using this
  have key : ∀ i : Nat, ∃ p : α × (Nat → Value), i < len → (∀ j, j < n → W.cell? ⟨a.block, a.off + i * n + j, none⟩ = some (p.2 j)) ∧ R p.1 p.2 := by
   intro i
   by_cases hi : i < len
   ·obtain ⟨cs', g1, g2⟩ := hall i (by omega)
    obtain ⟨x, c, hcj, hr⟩ := hel (D i) nf cs' (Pl i) (hsz i hi) g2 (hfe _ (List.mem_map_of_mem (List.mem_range.2 hi)))
    obtain ⟨_, hlen, hcell⟩ := World.cells?_some g1
    refine ⟨(x, c), fun _ => ⟨fun j hj => ?_, hr⟩⟩
    have hs := hspot (by omega)
    have e := (hcell j hj).trans (hcj j hj)
    obtain ⟨ab, ao, sp⟩ := a
    simp only at hs
    subst hs
    have add0 : ∀ (b o j : Nat), ((⟨b, o, none⟩ : Addr).add j) = ⟨b, o + j, none⟩ := by intro b o j; unfold Addr.add; split <;> simp_all
    rw [add0, add0] at e
    exact e
   ·exact ⟨(x0, fun _ => undef), fun h => absurd h hi⟩
  obtain ⟨X, hX⟩ := Classical.axiomOfChoice key
  have hby : len * bytes ≤ mm * bytes := Nat.mul_le_mul_right _ hl
  refine ⟨(List.range len).map (fun i => (X i).1), ⟨some a, a.block, a.off, mm, by simp, by simpa using hl, by simp; omega, fun h0 => ?_, fun h0 => ?_, fun i hi => ?_⟩, by simp; omega⟩
  ·have := hspot h0
   obtain ⟨b, o, sp⟩ := a
   simp at this
   subst this
   rfl
  ·simp at h0
   obtain ⟨q, _⟩ := hX 0 (by omega)
   exact cell_lt (a := ⟨a.block, _, none⟩) (q 0 hn)
  ·have hi' : i < len := by simpa using hi
   obtain ⟨q, hr⟩ := hX i hi'
   exact ⟨_, q, by rw [List.getElem_map, List.getElem_range]; exact hr⟩
def at7o (c0 c1 c2 c3 c4 c5 c6 : Value) : Nat → Value
 | 0 => c0 | 1 => c1 | 2 => c2 | 3 => c3 | 4 => c4 | 5 => c5 | _ => c6
end
end Go.Proofs.YtjohcnhiblfbnaaGreatDoor
namespace Go.Proofs.YtjohcnhiblfbnaaGreatDoor
open Go.ChangeShapes Go.WideShapes Go.ChangeAt Go.RowKit Go.Deep Go.Joins
theorem cellsRw : Tryz.prog.cellsOf 74 = 6 := by kernel_rfl
theorem bytesRw : Tryz.prog.bytesOf 74 = 48 := by kernel_rfl
theorem cellsRws : Tryz.prog.cellsOf 28 = 1 := by kernel_rfl
theorem bytesRws : Tryz.prog.bytesOf 28 = 24 := by kernel_rfl
theorem cellsN4 : Tryz.prog.cellsOf 72 = 4 := by kernel_rfl
section
variable {H : Type} {enc : TypeId × Value → H} {W : World}
set_option maxRecDepth 100000 in
theorem rw_of_trod (d : DataW H) (fuel : Nat) (cs : List Value) (ps : List MemPlace) (h : DataW.trod enc Tryz.prog W 0 (fun _ => true) true fuel 74 cs = some (d, ps)) :
  ∃ (x : Rw) (c : Nat → Value), (∀ j, j < 6 → cs[j]? = some (c j)) ∧ RepRw (fun k => k < W.heap.size) W x c := by
 obtain ⟨y0, y1, y2, n, hx, hlen, h0, h1, h2⟩ := trod_struct3 Tryz.underlying74 h
 rw [cellsRw] at hlen
 match cs, hlen with
 | [c0, c1, c2, c3, c4, c5], _ =>
  simp [cellsInt] at h0
  simp [cellsInt] at h1
  simp [cellsN4] at h2
  obtain ⟨k, e0, r0, w0⟩ := DataW.trod_int Tryz.underlying3 h0
  obtain ⟨s, e1, r1, w1⟩ := DataW.trod_int Tryz.underlying3 h1
  obtain ⟨z0, z1, z2, z3, n', hx', q0, q1, q2, q3⟩ := trod_array4 Tryz.underlying72 cellsInt h2
  obtain ⟨n0, f0, r2, w2⟩ := DataW.trod_int Tryz.underlying3 q0
  obtain ⟨n1, f1, r3, w3⟩ := DataW.trod_int Tryz.underlying3 q1
  obtain ⟨n2, f2, r4, w4⟩ := DataW.trod_int Tryz.underlying3 q2
  obtain ⟨n3, f3, r5, w5⟩ := DataW.trod_int Tryz.underlying3 q3
  simp at e0 e1 f0 f1 f2 f3
  subst e0 e1 f0 f1 f2 f3
  exact ⟨⟨k, s, n0, n1, n2, n3⟩, at7o (.int .i64 k) (.int .i64 s) (.int .i64 n0) (.int .i64 n1) (.int .i64 n2) (.int .i64 n3) (.int .i64 n3), fun j hj => match j, hj with
   | 0, _ => rfl | 1, _ => rfl | 2, _ => rfl | 3, _ => rfl | 4, _ => rfl | 5, _ => rfl, rfl, rfl, rfl, rfl, rfl, rfl, i64_wf w0, i64_wf w1, i64_wf w2, i64_wf w3, i64_wf w4, i64_wf w5⟩
theorem rws_of_trod (d : DataW H) (fuel : Nat) (v : Value) (ps : List MemPlace) (h : DataW.trod enc Tryz.prog W 0 (fun _ => true) true fuel 28 [v] = some (d, ps)) (hf : Fits Tryz.prog 28 d) :
  ∃ l, RepRws (fun k => k < W.heap.size) W l v := by
 obtain ⟨l, hl, -⟩ := slg_of_trod (RepRw (fun k => k < W.heap.size) W) ⟨0, 0, 0, 0, 0, 0⟩ Tryz.underlying28 cellsRw bytesRw (by omega) d fuel v ps h hf
  (fun d' fuel' cs' ps' _ h' _ => rw_of_trod d' fuel' cs' ps' h')
 exact ⟨l, hl⟩
set_option maxRecDepth 100000 in
theorem open_rws {base : Nat} {v : Value} {d : DataW H} {p : List MemPlace} (hv : Value.okWide Tryz.prog W .any base 28 v) (h : DataW.Trod enc Tryz.prog W 0 (fun _ => true) true 28 v d p) (hf : Fits Tryz.prog 28 d) :
  ∃ l, RepRws (fun k => k < W.heap.size) W l v := by
 obtain ⟨a0, len, cap, rfl⟩ := okWide_slice Tryz.underlying28 hv
 obtain ⟨fuel, hf'⟩ := h
 exact rws_of_trod d fuel _ p (by simpa [Value.cells] using hf') hf
set_option maxRecDepth 100000 in
theorem open_rwss {base : Nat} {v : Value} {d : DataW H} {p : List MemPlace} (hv : Value.okWide Tryz.prog W .any base 27 v) (h : DataW.Trod enc Tryz.prog W 0 (fun _ => true) true 27 v d p) (hf : Fits Tryz.prog 27 d) :
  ∃ l, RepRwss (fun k => k < W.heap.size) W l v := by
 obtain ⟨a0, len, cap, rfl⟩ := okWide_slice Tryz.underlying27 hv
 obtain ⟨fuel, hf'⟩ := h
 obtain ⟨l, hl, -⟩ := slg_of_trod (fun x c => RepRws (fun k => k < W.heap.size) W x (c 0)) [] Tryz.underlying27 cellsRws bytesRws (by omega) d fuel _ p (by simpa [Value.cells] using hf') hf
  (fun d' fuel' cs' ps' hs h' hf'' => by
   have hlen : cs'.length = 1 := by
    rcases open_slice Tryz.underlying28 h' with ⟨hcs, -⟩ | ⟨a, len, cap, mm, nf, D, Pl, hcs, -⟩ <;> rw [hcs] <;> rfl
   match cs', hlen with
   | [c], _ =>
    obtain ⟨l, hl⟩ := rws_of_trod d' fuel' c ps' h' hf''
    exact ⟨l, fun _ => c, fun j hj => match j, hj with
     | 0, _ => rfl, hl⟩)
 exact ⟨l, hl⟩
end
end Go.Proofs.YtjohcnhiblfbnaaGreatDoor
namespace Go.Proofs.YtjohcnhiblfbnaaGreatDoor.locateChecks
open Go.ChangeShapes Go.WideShapes Go.ChangeAt Go.RowKit
open Go.ChangeMaps (open_string)
set_option maxRecDepth 100000 in
theorem contract (H : Type) (enc : TypeId × Value → H) (W : World) (base : Nat) (args : Array Value) (ds gs : List (DataW H)) (before : List MemPlace)
  (hval : ∀ (j : Nat) t v, Tryz.f5.params[j]? = some t → args[j]? = some v → Value.okWide Tryz.prog W .any base t v)
  (hW : DataW.Whole enc Tryz.prog Tryz.f5.params.toList Rows.locateChecksSpec.vars false W args.toList ds gs before)
  (hz : (DataW.weightsEach Tryz.prog (Tryz.f5.params.toList ++ []) (ds ++ gs)).all (· ≤ reachBytes) = true) (hL : laidMet Tryz.prog Rows.locateChecksRow.laid W) :
  Calls Tryz.prog 5 args W fun e W' => ∃ v, e = .returned v ∧ Rows.locateChecksSpec.post enc Tryz.prog Tryz.f5 false true false false W args v W' := by
 have hW' := hW
 obtain ⟨p, q, hA0, hV, rfl, hfz, hnd⟩ := hW
 have hA : DataW.TrodAll enc Tryz.prog W 0 (fun _ => true) true Tryz.f5.params.toList args.toList ds p := hA0
 clear hA0
 rw [Tryz.params5] at hA hval hz
 obtain ⟨v0, vs0, d0, ds0, p0, q0, hargs, rfl, rfl, h0, r0⟩ := trodAll_cons hA
 obtain ⟨v1, vs1, d1, ds1, p1, q1, rfl, rfl, rfl, h1, r1⟩ := trodAll_cons r0
 obtain ⟨rfl, rfl, rfl⟩ := trodAll_nil r1
 obtain rfl : args = #[v0, v1] := by cases args; simp_all
 obtain ⟨rfl, rfl⟩ := trodVars_none hV
 have htab : TabOk W := tabOk_of_laid hL (by simp [Rows.locateChecksRow])
 have z0 : (DataW.weightsEach Tryz.prog [27, 28] [d0, d1]).all (· ≤ reachBytes) = true := by simpa using hz
 obtain ⟨f0, z1⟩ := fits_cons z0
 obtain ⟨f1, z2⟩ := fits_cons z1
 obtain ⟨x0, g0⟩ := open_rwss (hval 0 27 v0 rfl rfl) h0 f0
 obtain ⟨x1, g1⟩ := open_rws (hval 1 28 v1 rfl rfl) h1 f1
 -- USE: walk DATA W CELLS htab FACTS
 refine (walk x0 x1 W v0 v1 htab g0 g1).mono fun e W' ⟨he, hb⟩ => ⟨_, he, law_post rfl (by kernel_rfl) (fun t ht => ?_) hW' rfl hb⟩
 rw [Tryz.params5] at ht
 have ht' : t = 27 ∨ t = 28 := by simpa using ht
 rcases ht' with rfl | rfl <;> exact ⟨by kernel_rfl, of_decide_eq_true (by kernel_rfl)⟩
set_option maxRecDepth 100000 in
theorem laid_met (os : Os) : laidMet Tryz.prog Rows.locateChecksRow.laid ((laidWorld os).forCall (fun _ _ => 0) ⟨#[], #[.slice none 0 0, .slice none 0 0], []⟩).memory :=
 laidMet_of_run' 8 (by kernel_rfl) (by kernel_rfl)
set_option maxRecDepth 100000 in
theorem reads (os : Os) {H : Type} (enc : TypeId × Value → H) : ∃ places, DataW.whole enc Tryz.prog ((laidWorld os).forCall (fun _ _ => 0) ⟨#[], #[.slice none 0 0, .slice none 0 0], []⟩).memory Tryz.f5.params.toList Rows.locateChecksSpec.vars false (#[.slice none 0 0, .slice none 0 0] : Array Value).toList 8 = some ([.nil, .nil], [], places) :=
 ⟨[], by kernel_rfl⟩
set_option maxRecDepth 100000 in
theorem lifted (os : Os) (started : os.Started) (H : Type) (enc : TypeId × Value → H) (F : Stop.Interp) :
  ReturnsInHanded {} Tryz.checked os 5 .any ((OpenSpec.ofChange Rows.locateChecksSpec).preRow enc Tryz.prog Tryz.f5 Rows.locateChecksRow.domain false Rows.locateChecksRow.laid) (((OpenSpec.ofChange Rows.locateChecksSpec).at F).post enc Tryz.prog Tryz.f5 false true false false) := by
 obtain ⟨places, hx⟩ := reads os enc
 refine returnsInHanded_of_row (C := Tryz.checked) (s := OpenSpec.ofChange Rows.locateChecksSpec) own started (by kernel_rfl) Tryz.func5
  (witness_row_at (enc := enc) (C := Tryz.checked) false (laidWorld os) #[.slice none 0 0, .slice none 0 0] rfl (by kernel_rfl) (by kernel_rfl) (by kernel_rfl)
   (OpenSpec.preRow_of_cond 8 hx (by kernel_rfl) (fun k hk => by cases hk) (by kernel_rfl) (laid_met os))) ?_
 intro W base args ds gs before hval hW _ _ hz hL _ _
 exact contract H enc W base args ds gs before hval hW hz hL
set_option maxRecDepth 100000 in
theorem said : Rows.LocateChecksSaid :=
 OpenClaim.holds_of_cond 5 Tryz.f5 rfl rfl rfl rfl rfl rfl rfl ⟨rfl, rfl, rfl, rfl, rfl⟩ rfl rfl rfl rfl rfl (by kernel_rfl) Tryz.func5 (by kernel_rfl)
  (of_decide_eq_true (by kernel_rfl)) (by unfold Func.isWrapper; first | (rw [if_pos (by decide +kernel)]; kernel_rfl) | (rw [if_neg (by decide +kernel)]; exact ⟨rfl, rfl⟩))
  (fun os started H enc _ F => by rw [OpenClaim.pre_eq_preRow]; exact lifted os started H enc F)
set_option maxRecDepth 100000 in
theorem plain (f : FuncId) (fn : Func) (hf : Tryz.pinned.checked.prog.funcNamed "beaconry/beaconrylaw07.LocateChecks" = some f) (hfn : Tryz.pinned.checked.prog.funcs[f]? = some fn) :
  false = Tryz.pinned.checked.prog.looks [] ∧ ∀ (j : Nat) t, fn.params[j]? = some t → Tryz.pinned.checked.prog.wantsStandIn t = false := by
 obtain rfl : f = 5 := Option.some.inj ((show Tryz.prog.funcNamed "beaconry/beaconrylaw07.LocateChecks" = some 5 by kernel_rfl).symm.trans hf) |>.symm
 obtain rfl : fn = Tryz.f5 := (Option.some.inj (Tryz.func5.symm.trans hfn)).symm
 refine ⟨by kernel_rfl, fun j t ht => ?_⟩
 rw [Tryz.params5] at ht
 have ht' : t = 27 ∨ t = 28 := by simpa using Array.mem_of_getElem? ht
 rcases ht' with rfl | rfl
 ·exact (show Tryz.prog.wantsStandIn 27 = false by kernel_rfl)
 ·exact (show Tryz.prog.wantsStandIn 28 = false by kernel_rfl)
set_option maxRecDepth 100000 in
theorem holds : Rows.LocateChecksCardSaid :=
 Claim7.holds_tied_plain_at .later [] _ _ _ _ said (fun _ h => by cases h) (by kernel_rfl) (fun _ h => by cases h) locateChecks_row_tie rfl ⟨rfl, rfl⟩ (by kernel_rfl) rfl plain (by kernel_rfl)
#print axioms holds
end Go.Proofs.YtjohcnhiblfbnaaGreatDoor.locateChecks
