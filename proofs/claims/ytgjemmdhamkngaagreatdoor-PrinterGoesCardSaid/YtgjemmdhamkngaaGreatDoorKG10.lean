/-
  RfPrText
-/
import Derived.Test.YtgjemmdhamkngaaGreatDoorKG09
import Derived.Test.YtgjemmdhamkngaaGreatDoorK02
namespace Go.Proofs.YtgjemmdhamkngaaGreatDoor
open Go.RowKit
def accD (x : Pr) (k : Nat) : ByteArray := ⟨(linesOf ((x.decls.take k).map showDe)).toArray⟩
def accF (x : Pr) (k : Nat) : ByteArray := ⟨(linesOf (x.decls.map showDe) ++ linesOf ((x.facts.take k).map showFa)).toArray⟩
def accR (x : Pr) (k : Nat) : ByteArray := ⟨(linesOf (x.decls.map showDe) ++ (linesOf (x.facts.map showFa) ++ linesOf ((x.rules.take k).map showRu))).toArray⟩
theorem accD_zero (x : Pr) : accD x 0 = ⟨#[]⟩ := by simp [accD, linesOf]
theorem accF_zero (x : Pr) : accF x 0 = accD x x.decls.length := by simp [accF, accD, linesOf]
theorem accR_zero (x : Pr) : accR x 0 = accF x x.facts.length := by simp [accR, accF, linesOf]
theorem accR_end (x : Pr) : accR x x.rules.length = ⟨(showPr x).toArray⟩ := by simp [accR, showPr]
theorem take_snoc {α : Type} (f : α → List UInt8) (l : List α) (k : Nat) (h : k < l.length) : linesOf ((l.take (k + 1)).map f) = linesOf ((l.take k).map f) ++ (f l[k] ++ [10]) := by
 rw [List.take_succ_eq_append_getElem h, List.map_append, List.map_cons, List.map_nil, linesOf_snoc]
theorem accD_succ (x : Pr) (k : Nat) (h : k < x.decls.length) : accD x (k + 1) = accD x k ++ ⟨#[109, 97, 116, 101, 114, 105, 97, 108, 105, 122, 101, 40]⟩ ++ x.decls[k].name ++ ⟨#[44]⟩ ++ ⟨(Lib.itoa x.decls[k].arity).toArray⟩ ++ ⟨#[41, 46, 10]⟩ := by
 apply ByteArray.ext
 simp only [ByteArray.data_append, accD, take_snoc showDe x.decls k h, showDe]
 simp
theorem accF_succ (x : Pr) (k : Nat) (h : k < x.facts.length) : accF x (k + 1) = accF x k ++ ⟨(showFa x.facts[k]).toArray⟩ ++ ⟨#[10]⟩ := by
 apply ByteArray.ext
 simp only [ByteArray.data_append, accF, take_snoc showFa x.facts k h]
 simp
theorem accR_succ (x : Pr) (k : Nat) (h : k < x.rules.length) : accR x (k + 1) = accR x k ++ ⟨(showRu x.rules[k]).toArray⟩ ++ ⟨#[10]⟩ := by
 apply ByteArray.ext
 simp only [ByteArray.data_append, accR, take_snoc showRu x.rules k h]
 simp
theorem take_le {α : Type} (f : α → List UInt8) (l : List α) (k : Nat) : (linesOf ((l.take k).map f)).length ≤ (linesOf (l.map f)).length := by
 rw [List.map_take]; exact linesOf_take_le _ _
theorem acc_le {x : Pr} (h : prB x = true) (k : Nat) : (accD x k).size ≤ 13000000000000 ∧ (accF x k).size ≤ 13000000000000 ∧ (accR x k).size ≤ 13000000000000 := by
 have h0 := showPr_le h
 have h1 := take_le showDe x.decls k
 have h2 := take_le showFa x.facts k
 have h3 := take_le showRu x.rules k
 simp only [showPr, List.length_append] at h0
 simp only [accD, accF, accR, size_mk, List.length_append]
 omega
theorem num_text {d : De} (h : deB d = true) : printB (.mk 1 d.arity ⟨#[]⟩ []) = Lib.itoa d.arity ∧ (Lib.itoa d.arity).length ≤ 11 ∧ d.name.size ≤ 16 := by
 rw [deB] at h
 simp only [Bool.and_eq_true, decide_eq_true_eq] at h
 refine ⟨?_, itoa_le _ (by omega), relB_le h.1⟩
 have hr : rightV 4 (.mk 1 d.arity ⟨#[]⟩ []) = true := by
  rw [rightV_mk]
  have e : (⟨#[]⟩ : ByteArray).toList.isEmpty = true := by rw [isEmpty_size]; rfl
  simp only [baseB, e, List.isEmpty_nil, if_pos, Bool.and_eq_true, decide_eq_true_eq, Bool.true_and]
  omega
 rw [printB, if_pos hr]; simp [prV]
set_option maxRecDepth 100000 in
set_option maxHeartbeats 16000000 in
theorem refPrText_any (x : Pr) (S : Nat → Prop) (w : World) (c0 c1 c2 : Value) (hS : ∀ k, S k → k < w.heap.size) (hx : RepPr S w x c0 c1 c2) :
  Calls Tryz.prog 13 #[.agg #[c0, c1, c2]] w fun e w' => e = .returned (.string ⟨(told (prB x) (showPr x)).toArray⟩) ∧ Below w.heap.size w w' := by
 have HX := Lib.hid hx
 have HD0 := Lib.hid hx.1; have HFA := Lib.hid hx.2.1; have HR := Lib.hid hx.2.2
 obtain ⟨fa, fc, rfl⟩ := SlG.form hx.1
 obtain ⟨ga, gc, rfl⟩ := SlG.form hx.2.1
 obtain ⟨ha, hc, rfl⟩ := SlG.form hx.2.2
 clear hx
 cases hb : prB x with
 | false =>
  have HB := Lib.hid hb
  clear hb
  go_enter Tryz.func13, Tryz.ntmps13
  go_wp2_with fail
  have x1 := boxPr_new w (.slice fa x.decls.length fc) (.slice ga x.facts.length gc) (.slice ha x.rules.length hc)
  have b1 := below_alloc w (.cells #[.slice fa x.decls.length fc, .slice ga x.facts.length gc, .slice ha x.rules.length hc] 26)
  generalize w.alloc (.cells #[.slice fa x.decls.length fc, .slice ga x.facts.length gc, .slice ha x.rules.length hc] 26) = w1 at *
  have X1 := Lib.hid x1; have B1 := Lib.hid b1
  clear x1 b1
  obtain ⟨p0, p1, p2⟩ := X1.out.cells
  refine (refPrRight_any x S _ _ _ _ (fun k hk => Nat.lt_of_lt_of_le (hS k hk) B1.out.size) (RepPr.on (fun _ h => h) (fun k hk => B1.out.block k (hS k hk)) HX.out)).mono ?_
  rw [HB.out]
  rintro e w2 ⟨rfl, hb⟩
  have X2 := Lib.hid (X1.out.on hb)
  have B2 := Lib.hid (Below.step B1.out hb)
  clear hb
  clear p0 p1 p2
  obtain ⟨p0, p1, p2⟩ := X2.out.cells
  go_wp2_with fail
  go_ret
  exact ⟨rfl, B2.out⟩
 | true =>
 have HB := Lib.hid hb
 have hr := hb
 clear hb
 rw [prB] at hr
 simp only [Bool.and_eq_true] at hr
 obtain ⟨-, n1, d1⟩ := listB_bounds hr.1
 obtain ⟨-, n2, d2⟩ := listB_bounds hr.2.1
 obtain ⟨-, n3, d3⟩ := listB_bounds hr.2.2
 have m1 : x.decls.length ≤ 64 := by omega
 have m2 : x.facts.length ≤ 64 := by omega
 have m3 : x.rules.length ≤ 64 := by omega
 have HDB := Lib.hid d1; have HFB := Lib.hid d2; have HRB := Lib.hid d3
 clear hr d1 d2 d3 n1 n2 n3
 go_enter Tryz.func13, Tryz.ntmps13
 go_wp2_with fail
 have x1 := boxPr_new w (.slice fa x.decls.length fc) (.slice ga x.facts.length gc) (.slice ha x.rules.length hc)
 have b1 := below_alloc w (.cells #[.slice fa x.decls.length fc, .slice ga x.facts.length gc, .slice ha x.rules.length hc] 26)
 generalize w.alloc (.cells #[.slice fa x.decls.length fc, .slice ga x.facts.length gc, .slice ha x.rules.length hc] 26) = w1 at *
 have X1 := Lib.hid x1; have B1 := Lib.hid b1
 clear x1 b1
 obtain ⟨p0, p1, p2⟩ := X1.out.cells
 refine (refPrRight_any x S _ _ _ _ (fun k hk => Nat.lt_of_lt_of_le (hS k hk) B1.out.size) (RepPr.on (fun _ h => h) (fun k hk => B1.out.block k (hS k hk)) HX.out)).mono ?_
 rw [HB.out]
 rintro e w2 ⟨rfl, hb⟩
 have X2 := Lib.hid (X1.out.on hb)
 have B2 := Lib.hid (Below.step B1.out hb)
 clear hb
 clear p0 p1 p2
 obtain ⟨p0, p1, p2⟩ := X2.out.cells
 go_wp2_with fail
 have HSZ := Lib.hid (fun k (hk : S k) => Nat.lt_of_lt_of_le (hS k hk) B2.out.size)
 have HLD := Lib.hid (RepDes.on (fun _ h => h) (fun k hk => B2.out.block k (hS k hk)) HD0.out : RepDes S w2 x.decls (.slice fa x.decls.length fc))
 clear p0 p1 p2
 go_loopw [4, 5] (fun s i wr => ∃ k : Nat, k ≤ x.decls.length ∧ i = .int .i64 k ∧ s = .string (accD x k) ∧ Below w2.heap.size w2 wr) (fun _ i _ => x.decls.length - (intOf i).toNat)
 case atStart => exact ⟨0, Nat.zero_le _, rfl, by rw [accD_zero], Below.refl _ _⟩
 case round =>
  obtain ⟨k, hk, rfl, rfl, hbel⟩ := hrel
  have XR := Lib.hid (X2.out.on hbel); have HBEL := Lib.hid hbel
  obtain ⟨p0, p1, p2⟩ := XR.out.cells
  by_cases hl : k < x.decls.length
  ·have hA := (RepDes.on (fun _ h => h) (fun j hj => hbel.block j (HSZ.out j hj)) HLD.out : RepDes S wr x.decls (.slice fa x.decls.length fc))
   obtain ⟨-, hcap2, lb, lo, hga2, hSb, g0, g1, g⟩ := RepDes.at hA k hl
   have HGA2 := Lib.hid hga2
   have HLB : Hid (lb < wr.heap.size) := Nat.lt_of_lt_of_le (HSZ.out lb hSb) hbel.size
   have Q0 := Lib.hid g0; have Q1 := Lib.hid g1
   have HAS := Lib.hid (accD_succ x k hl)
   have hsz := (acc_le HB.out k).1
   obtain ⟨hn1, hn2, hn3⟩ := num_text (HDB.out _ (List.getElem_mem hl))
   have HAR : Hid (I64 x.decls[k].arity) := g.2.2.2
   have HK1 : Hid ((0 : Int) ≤ (k : Int)) := Int.natCast_nonneg k
   have HK2 : Hid ((k : Int) < (x.decls.length : Int)) := by show _ < _; omega
   clear hA g hga2 hbel g0 g1 hSb
   generalize x.decls[k] = y at *
   obtain ⟨NB, hNB⟩ : ∃ NB : ByteArray, (⟨(Lib.itoa y.arity).toArray⟩ : ByteArray) = NB := ⟨_, rfl⟩
   have HNB : Hid ((⟨(printB (.mk 1 y.arity ⟨#[]⟩ [])).toArray⟩ : ByteArray) = NB) := by show _ = _; rw [hn1]; exact hNB
   have hnsz : NB.size ≤ 11 := by rw [← hNB, size_mk]; exact hn2
   rw [hNB] at HAS
   generalize accD x k = A at *
   have Z := Lib.hid (And.intro (strAdd A ⟨#[109, 97, 116, 101, 114, 105, 97, 108, 105, 122, 101, 40]⟩ (by show A.size + 12 ≤ _; omega)) (And.intro (strAdd (A ++ ⟨#[109, 97, 116, 101, 114, 105, 97, 108, 105, 122, 101, 40]⟩) y.name (by rw [ByteArray.size_append]; show A.size + 12 + y.name.size ≤ _; omega)) (And.intro (strAdd (A ++ ⟨#[109, 97, 116, 101, 114, 105, 97, 108, 105, 122, 101, 40]⟩ ++ y.name) ⟨#[44]⟩ (by rw [ByteArray.size_append, ByteArray.size_append]; show A.size + 12 + y.name.size + 1 ≤ _; omega)) (And.intro (strAdd (A ++ ⟨#[109, 97, 116, 101, 114, 105, 97, 108, 105, 122, 101, 40]⟩ ++ y.name ++ ⟨#[44]⟩) NB (by rw [ByteArray.size_append, ByteArray.size_append, ByteArray.size_append]; show A.size + 12 + y.name.size + 1 + NB.size ≤ _; omega)) ((strAdd (A ++ ⟨#[109, 97, 116, 101, 114, 105, 97, 108, 105, 122, 101, 40]⟩ ++ y.name ++ ⟨#[44]⟩ ++ NB) ⟨#[41, 46, 10]⟩ (by rw [ByteArray.size_append, ByteArray.size_append, ByteArray.size_append, ByteArray.size_append]; show A.size + 12 + y.name.size + 1 + NB.size + 3 ≤ _; omega)))))))
   clear hn1 hn2 hn3 hnsz hNB hsz
   go_wp2_with fail
   clear p0 p1 p2
   refine wp_region_factsL (by rfl) 72 (by rfl) (by kernel_rfl) (fun _ iz vz => (iz = 0 → vz = .string A) ∧ (iz = 1 → vz = .string (A ++ ⟨#[109, 97, 116, 101, 114, 105, 97, 108, 105, 122, 101, 40]⟩)) ∧ (iz = 2 → vz = .pointer (some ⟨w.heap.size, 0, none⟩)) ∧ (iz = 3 → vz = .slice (some ⟨lb, lo, none⟩) x.decls.length fc) ∧ (iz = 4 → vz = .int .i64 (k : Int)) ∧ (iz = 5 → vz = .pointer (some ⟨lb, lo + k * 2, none⟩)) ∧ (iz = 6 → vz = .pointer (some ⟨lb, lo + k * 2, none⟩)) ∧ (iz = 7 → vz = .string y.name) ∧ (iz = 8 → vz = .string (A ++ ⟨#[109, 97, 116, 101, 114, 105, 97, 108, 105, 122, 101, 40]⟩ ++ y.name)) ∧ (iz = 9 → vz = .string (A ++ ⟨#[109, 97, 116, 101, 114, 105, 97, 108, 105, 122, 101, 40]⟩ ++ y.name ++ ⟨#[44]⟩)) ∧ (iz = 10 → vz = .pointer (some ⟨w.heap.size, 0, none⟩)) ∧ (iz = 11 → vz = .slice (some ⟨lb, lo, none⟩) x.decls.length fc) ∧ (iz = 12 → vz = .int .i64 (k : Int)) ∧ (iz = 13 → vz = .pointer (some ⟨lb, lo + k * 2, none⟩)) ∧ (iz = 14 → vz = .pointer (some ⟨lb, lo + k * 2 + 1, none⟩)) ∧ (iz = 15 → vz = .int .i64 y.arity) ∧ (iz = 16 → vz = .agg #[.int .i64 1, .int .i64 y.arity, .string ⟨#[]⟩, .slice none 0 0]) ∧ (iz = 17 → vz = .string NB) ∧ (iz = 18 → vz = .string (A ++ ⟨#[109, 97, 116, 101, 114, 105, 97, 108, 105, 122, 101, 40]⟩ ++ y.name ++ ⟨#[44]⟩ ++ NB)) ∧ (iz = 19 → vz = .string (A ++ ⟨#[109, 97, 116, 101, 114, 105, 97, 108, 105, 122, 101, 40]⟩ ++ y.name ++ ⟨#[44]⟩ ++ NB ++ ⟨#[41, 46, 10]⟩))) (fun w' => Below wr.heap.size wr w') (Below.drew (Below.refl _ _)) ⟨?s0, ?s1, ?s2, ?s3, ?s4, ?s5, ?s6, ?s7, ?s8, ?s9, ?s10, ?s11, ?s12, ?s13, ?s14, ?s15, ?s16, ?s17, ?s18, ?s19, trivial⟩ (by rfl) ?last (by decide)
   case s0 =>
    intro a w' hoff hg hdep K hK
    have h4 := off_at hoff 4 (v := .string A) (by kernel_rfl) rfl
    rw [if_pos (by rfl)]
    go_simp
    exact hK.out _ _ hg ⟨fun _ => rfl, nn,nn,nn,nn,nn,nn,nn,nn,nn,nn,nn,nn,nn,nn,nn,nn,nn,nn,nn⟩ (fun _ _ h => h)
   case s1 =>
    intro a w' hoff hg hdep K hK
    obtain ⟨v0, e0, f0⟩ := hdep 0 _ 19 (by kernel_rfl) rfl rfl
    obtain rfl := (f0.1 rfl).symm
    rw [if_pos (by rfl)]
    have z1 := Z.out.1
    go_simp
    exact hK.out _ _ hg ⟨nn, fun _ => rfl, nn,nn,nn,nn,nn,nn,nn,nn,nn,nn,nn,nn,nn,nn,nn,nn,nn,nn⟩ (fun _ _ h => h)
   case s2 =>
    intro a w' hoff hg hdep K hK
    have h1 := off_at hoff 1 (v := .pointer (some ⟨w.heap.size, 0, none⟩)) (by kernel_rfl) rfl
    rw [if_pos (by rfl)]
    go_simp
    exact hK.out _ _ hg ⟨nn,nn, fun _ => rfl, nn,nn,nn,nn,nn,nn,nn,nn,nn,nn,nn,nn,nn,nn,nn,nn,nn⟩ (fun _ _ h => h)
   case s3 =>
    intro a w' hoff hg hdep K hK
    obtain ⟨v2, e2, f2⟩ := hdep 2 _ 21 (by kernel_rfl) rfl rfl
    obtain rfl := (f2.2.2.1 rfl).symm
    rw [if_pos (by rfl)]
    obtain ⟨p0, p1, p2⟩ := (XR.out.on hg).cells; rw [HGA2.out] at p0; have q0 := (hg.cell (p := ⟨lb, lo + k * 2, none⟩) HLB.out).trans Q0.out; have q1 := (hg.cell (p := ⟨lb, lo + k * 2 + 1, none⟩) HLB.out).trans Q1.out
    go_simp
    exact hK.out _ _ hg ⟨nn,nn,nn, fun _ => rfl, nn,nn,nn,nn,nn,nn,nn,nn,nn,nn,nn,nn,nn,nn,nn,nn⟩ (fun _ _ h => h)
   case s4 =>
    intro a w' hoff hg hdep K hK
    have h5 := off_at hoff 5 (v := .int .i64 (k : Int)) (by kernel_rfl) rfl
    rw [if_pos (by rfl)]
    go_simp
    exact hK.out _ _ hg ⟨nn,nn,nn,nn, fun _ => rfl, nn,nn,nn,nn,nn,nn,nn,nn,nn,nn,nn,nn,nn,nn,nn⟩ (fun _ _ h => h)
   case s5 =>
    intro a w' hoff hg hdep K hK
    obtain ⟨v3, e3, f3⟩ := hdep 3 _ 22 (by kernel_rfl) rfl rfl
    obtain rfl := (f3.2.2.2.1 rfl).symm
    obtain ⟨v4, e4, f4⟩ := hdep 4 _ 23 (by kernel_rfl) rfl rfl
    obtain rfl := (f4.2.2.2.2.1 rfl).symm
    rw [if_pos (by rfl)]
    have hk1 := HK1.out; have hk2 := HK2.out
    go_simp
    exact hK.out _ _ hg ⟨nn,nn,nn,nn,nn, fun _ => rfl, nn,nn,nn,nn,nn,nn,nn,nn,nn,nn,nn,nn,nn,nn⟩ (fun _ _ h => h)
   case s6 =>
    intro a w' hoff hg hdep K hK
    obtain ⟨v5, e5, f5⟩ := hdep 5 _ 24 (by kernel_rfl) rfl rfl
    obtain rfl := (f5.2.2.2.2.2.1 rfl).symm
    rw [if_pos (by rfl)]
    go_simp
    exact hK.out _ _ hg ⟨nn,nn,nn,nn,nn,nn, fun _ => rfl, nn,nn,nn,nn,nn,nn,nn,nn,nn,nn,nn,nn,nn⟩ (fun _ _ h => h)
   case s7 =>
    intro a w' hoff hg hdep K hK
    obtain ⟨v6, e6, f6⟩ := hdep 6 _ 25 (by kernel_rfl) rfl rfl
    obtain rfl := (f6.2.2.2.2.2.2.1 rfl).symm
    rw [if_pos (by rfl)]
    obtain ⟨p0, p1, p2⟩ := (XR.out.on hg).cells; rw [HGA2.out] at p0; have q0 := (hg.cell (p := ⟨lb, lo + k * 2, none⟩) HLB.out).trans Q0.out; have q1 := (hg.cell (p := ⟨lb, lo + k * 2 + 1, none⟩) HLB.out).trans Q1.out
    go_simp
    exact hK.out _ _ hg ⟨nn,nn,nn,nn,nn,nn,nn, fun _ => rfl, nn,nn,nn,nn,nn,nn,nn,nn,nn,nn,nn,nn⟩ (fun _ _ h => h)
   case s8 =>
    intro a w' hoff hg hdep K hK
    obtain ⟨v1, e1, f1⟩ := hdep 1 _ 20 (by kernel_rfl) rfl rfl
    obtain rfl := (f1.2.1 rfl).symm
    obtain ⟨v7, e7, f7⟩ := hdep 7 _ 26 (by kernel_rfl) rfl rfl
    obtain rfl := (f7.2.2.2.2.2.2.2.1 rfl).symm
    rw [if_pos (by rfl)]
    have z2 := Z.out.2.1
    go_simp
    exact hK.out _ _ hg ⟨nn,nn,nn,nn,nn,nn,nn,nn, fun _ => rfl, nn,nn,nn,nn,nn,nn,nn,nn,nn,nn,nn⟩ (fun _ _ h => h)
   case s9 =>
    intro a w' hoff hg hdep K hK
    obtain ⟨v8, e8, f8⟩ := hdep 8 _ 27 (by kernel_rfl) rfl rfl
    obtain rfl := (f8.2.2.2.2.2.2.2.2.1 rfl).symm
    rw [if_pos (by rfl)]
    have z3 := Z.out.2.2.1
    go_simp
    exact hK.out _ _ hg ⟨nn,nn,nn,nn,nn,nn,nn,nn,nn, fun _ => rfl, nn,nn,nn,nn,nn,nn,nn,nn,nn,nn⟩ (fun _ _ h => h)
   case s10 =>
    intro a w' hoff hg hdep K hK
    have h1 := off_at hoff 1 (v := .pointer (some ⟨w.heap.size, 0, none⟩)) (by kernel_rfl) rfl
    rw [if_pos (by rfl)]
    go_simp
    exact hK.out _ _ hg ⟨nn,nn,nn,nn,nn,nn,nn,nn,nn,nn, fun _ => rfl, nn,nn,nn,nn,nn,nn,nn,nn,nn⟩ (fun _ _ h => h)
   case s11 =>
    intro a w' hoff hg hdep K hK
    obtain ⟨v10, e10, f10⟩ := hdep 10 _ 29 (by kernel_rfl) rfl rfl
    obtain rfl := (f10.2.2.2.2.2.2.2.2.2.2.1 rfl).symm
    rw [if_pos (by rfl)]
    obtain ⟨p0, p1, p2⟩ := (XR.out.on hg).cells; rw [HGA2.out] at p0; have q0 := (hg.cell (p := ⟨lb, lo + k * 2, none⟩) HLB.out).trans Q0.out; have q1 := (hg.cell (p := ⟨lb, lo + k * 2 + 1, none⟩) HLB.out).trans Q1.out
    go_simp
    exact hK.out _ _ hg ⟨nn,nn,nn,nn,nn,nn,nn,nn,nn,nn,nn, fun _ => rfl, nn,nn,nn,nn,nn,nn,nn,nn⟩ (fun _ _ h => h)
   case s12 =>
    intro a w' hoff hg hdep K hK
    have h5 := off_at hoff 5 (v := .int .i64 (k : Int)) (by kernel_rfl) rfl
    rw [if_pos (by rfl)]
    go_simp
    exact hK.out _ _ hg ⟨nn,nn,nn,nn,nn,nn,nn,nn,nn,nn,nn,nn, fun _ => rfl, nn,nn,nn,nn,nn,nn,nn⟩ (fun _ _ h => h)
   case s13 =>
    intro a w' hoff hg hdep K hK
    obtain ⟨v11, e11, f11⟩ := hdep 11 _ 30 (by kernel_rfl) rfl rfl
    obtain rfl := (f11.2.2.2.2.2.2.2.2.2.2.2.1 rfl).symm
    obtain ⟨v12, e12, f12⟩ := hdep 12 _ 31 (by kernel_rfl) rfl rfl
    obtain rfl := (f12.2.2.2.2.2.2.2.2.2.2.2.2.1 rfl).symm
    rw [if_pos (by rfl)]
    have hk1 := HK1.out; have hk2 := HK2.out
    go_simp
    exact hK.out _ _ hg ⟨nn,nn,nn,nn,nn,nn,nn,nn,nn,nn,nn,nn,nn, fun _ => rfl, nn,nn,nn,nn,nn,nn⟩ (fun _ _ h => h)
   case s14 =>
    intro a w' hoff hg hdep K hK
    obtain ⟨v13, e13, f13⟩ := hdep 13 _ 32 (by kernel_rfl) rfl rfl
    obtain rfl := (f13.2.2.2.2.2.2.2.2.2.2.2.2.2.1 rfl).symm
    rw [if_pos (by rfl)]
    go_simp
    exact hK.out _ _ hg ⟨nn,nn,nn,nn,nn,nn,nn,nn,nn,nn,nn,nn,nn,nn, fun _ => rfl, nn,nn,nn,nn,nn⟩ (fun _ _ h => h)
   case s15 =>
    intro a w' hoff hg hdep K hK
    obtain ⟨v14, e14, f14⟩ := hdep 14 _ 33 (by kernel_rfl) rfl rfl
    obtain rfl := (f14.2.2.2.2.2.2.2.2.2.2.2.2.2.2.1 rfl).symm
    rw [if_pos (by rfl)]
    obtain ⟨p0, p1, p2⟩ := (XR.out.on hg).cells; rw [HGA2.out] at p0; have q0 := (hg.cell (p := ⟨lb, lo + k * 2, none⟩) HLB.out).trans Q0.out; have q1 := (hg.cell (p := ⟨lb, lo + k * 2 + 1, none⟩) HLB.out).trans Q1.out
    go_simp
    exact hK.out _ _ hg ⟨nn,nn,nn,nn,nn,nn,nn,nn,nn,nn,nn,nn,nn,nn,nn, fun _ => rfl, nn,nn,nn,nn⟩ (fun _ _ h => h)
   case s16 =>
    intro a w' hoff hg hdep K hK
    obtain ⟨v15, e15, f15⟩ := hdep 15 _ 34 (by kernel_rfl) rfl rfl
    obtain rfl := (f15.2.2.2.2.2.2.2.2.2.2.2.2.2.2.2.1 rfl).symm
    rw [if_pos (by rfl)]
    go_simp
    refine (refNumber_any y.arity _).mono ?_
    rintro e w2 ⟨rfl, hb⟩
    exact hK.out _ _ (Below.step hg hb) ⟨nn,nn,nn,nn,nn,nn,nn,nn,nn,nn,nn,nn,nn,nn,nn,nn, fun _ => rfl, nn,nn,nn⟩ (fun _ _ h => h)
   case s17 =>
    intro a w' hoff hg hdep K hK
    obtain ⟨v16, e16, f16⟩ := hdep 16 _ 35 (by kernel_rfl) rfl rfl
    obtain rfl := (f16.2.2.2.2.2.2.2.2.2.2.2.2.2.2.2.2.1 rfl).symm
    rw [if_pos (by rfl)]
    go_simp
    refine (refPrint_any (.mk 1 y.arity ⟨#[]⟩ []) 0 _ _ _ _ _ (Nat.zero_le _) (flat_rep _ _ 1 y.arity ⟨#[]⟩ ⟨by omega, by omega⟩ HAR.out (by decide))).mono ?_
    rw [HNB.out]
    rintro e w2 ⟨rfl, hb⟩
    exact hK.out _ _ (Below.step hg hb) ⟨nn,nn,nn,nn,nn,nn,nn,nn,nn,nn,nn,nn,nn,nn,nn,nn,nn, fun _ => rfl, nn,nn⟩ (fun _ _ h => h)
   case s18 =>
    intro a w' hoff hg hdep K hK
    obtain ⟨v9, e9, f9⟩ := hdep 9 _ 28 (by kernel_rfl) rfl rfl
    obtain rfl := (f9.2.2.2.2.2.2.2.2.2.1 rfl).symm
    obtain ⟨v17, e17, f17⟩ := hdep 17 _ 36 (by kernel_rfl) rfl rfl
    obtain rfl := (f17.2.2.2.2.2.2.2.2.2.2.2.2.2.2.2.2.2.1 rfl).symm
    rw [if_pos (by rfl)]
    have z4 := Z.out.2.2.2.1
    go_simp
    exact hK.out _ _ hg ⟨nn,nn,nn,nn,nn,nn,nn,nn,nn,nn,nn,nn,nn,nn,nn,nn,nn,nn, fun _ => rfl, nn⟩ (fun _ _ h => h)
   case s19 =>
    intro a w' hoff hg hdep K hK
    obtain ⟨v18, e18, f18⟩ := hdep 18 _ 37 (by kernel_rfl) rfl rfl
    obtain rfl := (f18.2.2.2.2.2.2.2.2.2.2.2.2.2.2.2.2.2.2.1 rfl).symm
    rw [if_pos (by rfl)]
    have z5 := Z.out.2.2.2.2
    go_simp
    exact hK.out _ _ hg ⟨nn,nn,nn,nn,nn,nn,nn,nn,nn,nn,nn,nn,nn,nn,nn,nn,nn,nn,nn, fun _ => rfl⟩ (fun _ _ h => h)
   case last =>
    intro a w' hoff hg hf
    obtain ⟨v0, e0, f0⟩ := hf 0 _ 19 (by decide) rfl rfl
    obtain rfl := (f0.1 rfl).symm
    obtain ⟨v1, e1, f1⟩ := hf 1 _ 20 (by decide) rfl rfl
    obtain rfl := (f1.2.1 rfl).symm
    obtain ⟨v2, e2, f2⟩ := hf 2 _ 21 (by decide) rfl rfl
    obtain rfl := (f2.2.2.1 rfl).symm
    obtain ⟨v3, e3, f3⟩ := hf 3 _ 22 (by decide) rfl rfl
    obtain rfl := (f3.2.2.2.1 rfl).symm
    obtain ⟨v4, e4, f4⟩ := hf 4 _ 23 (by decide) rfl rfl
    obtain rfl := (f4.2.2.2.2.1 rfl).symm
    obtain ⟨v5, e5, f5⟩ := hf 5 _ 24 (by decide) rfl rfl
    obtain rfl := (f5.2.2.2.2.2.1 rfl).symm
    obtain ⟨v6, e6, f6⟩ := hf 6 _ 25 (by decide) rfl rfl
    obtain rfl := (f6.2.2.2.2.2.2.1 rfl).symm
    obtain ⟨v7, e7, f7⟩ := hf 7 _ 26 (by decide) rfl rfl
    obtain rfl := (f7.2.2.2.2.2.2.2.1 rfl).symm
    obtain ⟨v8, e8, f8⟩ := hf 8 _ 27 (by decide) rfl rfl
    obtain rfl := (f8.2.2.2.2.2.2.2.2.1 rfl).symm
    obtain ⟨v9, e9, f9⟩ := hf 9 _ 28 (by decide) rfl rfl
    obtain rfl := (f9.2.2.2.2.2.2.2.2.2.1 rfl).symm
    obtain ⟨v10, e10, f10⟩ := hf 10 _ 29 (by decide) rfl rfl
    obtain rfl := (f10.2.2.2.2.2.2.2.2.2.2.1 rfl).symm
    obtain ⟨v11, e11, f11⟩ := hf 11 _ 30 (by decide) rfl rfl
    obtain rfl := (f11.2.2.2.2.2.2.2.2.2.2.2.1 rfl).symm
    obtain ⟨v12, e12, f12⟩ := hf 12 _ 31 (by decide) rfl rfl
    obtain rfl := (f12.2.2.2.2.2.2.2.2.2.2.2.2.1 rfl).symm
    obtain ⟨v13, e13, f13⟩ := hf 13 _ 32 (by decide) rfl rfl
    obtain rfl := (f13.2.2.2.2.2.2.2.2.2.2.2.2.2.1 rfl).symm
    obtain ⟨v14, e14, f14⟩ := hf 14 _ 33 (by decide) rfl rfl
    obtain rfl := (f14.2.2.2.2.2.2.2.2.2.2.2.2.2.2.1 rfl).symm
    obtain ⟨v15, e15, f15⟩ := hf 15 _ 34 (by decide) rfl rfl
    obtain rfl := (f15.2.2.2.2.2.2.2.2.2.2.2.2.2.2.2.1 rfl).symm
    obtain ⟨v16, e16, f16⟩ := hf 16 _ 35 (by decide) rfl rfl
    obtain rfl := (f16.2.2.2.2.2.2.2.2.2.2.2.2.2.2.2.2.1 rfl).symm
    obtain ⟨v17, e17, f17⟩ := hf 17 _ 36 (by decide) rfl rfl
    obtain rfl := (f17.2.2.2.2.2.2.2.2.2.2.2.2.2.2.2.2.2.1 rfl).symm
    obtain ⟨v18, e18, f18⟩ := hf 18 _ 37 (by decide) rfl rfl
    obtain rfl := (f18.2.2.2.2.2.2.2.2.2.2.2.2.2.2.2.2.2.2.1 rfl).symm
    obtain ⟨v19, e19, f19⟩ := hf 19 _ 38 (by decide) rfl rfl
    obtain rfl := (f19.2.2.2.2.2.2.2.2.2.2.2.2.2.2.2.2.2.2.2 rfl).symm
    rw [if_pos (by rfl)]
    rw [hoff.sets [(19, .string A), (20, .string (A ++ ⟨#[109, 97, 116, 101, 114, 105, 97, 108, 105, 122, 101, 40]⟩)), (21, .pointer (some ⟨w.heap.size, 0, none⟩)), (22, .slice (some ⟨lb, lo, none⟩) x.decls.length fc), (23, .int .i64 (k : Int)), (24, .pointer (some ⟨lb, lo + k * 2, none⟩)), (25, .pointer (some ⟨lb, lo + k * 2, none⟩)), (26, .string y.name), (27, .string (A ++ ⟨#[109, 97, 116, 101, 114, 105, 97, 108, 105, 122, 101, 40]⟩ ++ y.name)), (28, .string (A ++ ⟨#[109, 97, 116, 101, 114, 105, 97, 108, 105, 122, 101, 40]⟩ ++ y.name ++ ⟨#[44]⟩)), (29, .pointer (some ⟨w.heap.size, 0, none⟩)), (30, .slice (some ⟨lb, lo, none⟩) x.decls.length fc), (31, .int .i64 (k : Int)), (32, .pointer (some ⟨lb, lo + k * 2, none⟩)), (33, .pointer (some ⟨lb, lo + k * 2 + 1, none⟩)), (34, .int .i64 y.arity), (35, .agg #[.int .i64 1, .int .i64 y.arity, .string ⟨#[]⟩, .slice none 0 0]), (36, .string NB), (37, .string (A ++ ⟨#[109, 97, 116, 101, 114, 105, 97, 108, 105, 122, 101, 40]⟩ ++ y.name ++ ⟨#[44]⟩ ++ NB)), (38, .string (A ++ ⟨#[109, 97, 116, 101, 114, 105, 97, 108, 105, 122, 101, 40]⟩ ++ y.name ++ ⟨#[44]⟩ ++ NB ++ ⟨#[41, 46, 10]⟩))] (by kernel_rfl) (by intro p hp; simp only [List.mem_cons, List.not_mem_nil, or_false] at hp; rcases hp with rfl | rfl | rfl | rfl | rfl | rfl | rfl | rfl | rfl | rfl | rfl | rfl | rfl | rfl | rfl | rfl | rfl | rfl | rfl | rfl <;> assumption)]
    clear hoff hf e0 f0 e1 f1 e2 f2 e3 f3 e4 f4 e5 f5 e6 f6 e7 f7 e8 f8 e9 f9 e10 f10 e11 f11 e12 f12 e13 f13 e14 f14 e15 f15 e16 f16 e17 f17 e18 f18 e19 f19
    simp only [List.foldl_cons, List.foldl_nil, List.setIfInBounds_toArray, List.set_cons_zero, List.set_cons_succ]
    go_simp
    go_wp2_with fail
    go_roundw
    case rel => exact ⟨k + 1, by omega, by go_num, by rw [HAS.out], Below.step HBEL.out hg⟩
    case measure => simp [intOf]; omega
  ·obtain rfl : k = x.decls.length := by omega
   rw [← accF_zero]
   have B3 := Lib.hid (Below.step B2.out hbel)
   have X3 := XR
   clear hbel HBEL HLD HSZ XR X2
   go_wp2_with fail
   have HSZ := Lib.hid (fun k (hk : S k) => Nat.lt_of_lt_of_le (hS k hk) B3.out.size)
   have HLD := Lib.hid (RepFas.on (fun _ h => h) (fun k hk => B3.out.block k (hS k hk)) HFA.out : RepFas S wr x.facts (.slice ga x.facts.length gc))
   clear p0 p1 p2
   generalize wr = w3 at *
   go_loopw [4, 6] (fun s i wr => ∃ k : Nat, k ≤ x.facts.length ∧ i = .int .i64 k ∧ s = .string (accF x k) ∧ Below w3.heap.size w3 wr) (fun _ i _ => x.facts.length - (intOf i).toNat)
   case atStart => exact ⟨0, Nat.zero_le _, rfl, rfl, Below.refl _ _⟩
   case round =>
    obtain ⟨k, hk, rfl, rfl, hbel⟩ := hrel
    have XR := Lib.hid (X3.out.on hbel); have HBEL := Lib.hid hbel
    obtain ⟨p0, p1, p2⟩ := XR.out.cells
    by_cases hl : k < x.facts.length
    ·have hA := (RepFas.on (fun _ h => h) (fun j hj => hbel.block j (HSZ.out j hj)) HLD.out : RepFas S wr x.facts (.slice ga x.facts.length gc))
     obtain ⟨-, hcap2, lb, lo, fa2, fc2, hga2, -, g0, g1, g⟩ := RepFas.at hA k hl
     rw [hga2] at p1
     have G := Lib.hid g
     have HAS := Lib.hid (accF_succ x k hl)
     have hsz := (acc_le HB.out k).2.1
     have HYB := Lib.hid (HFB.out _ (List.getElem_mem hl))
     clear hA g hga2 hbel
     generalize x.facts[k] = y at *
     have hys := showFa_le HYB.out
     generalize accF x k = A at *
     obtain ⟨YB, hYB⟩ : ∃ YB : ByteArray, (⟨(showFa y).toArray⟩ : ByteArray) = YB := ⟨_, rfl⟩
     have hysz : YB.size = (showFa y).length := by rw [← hYB, size_mk]
     have HYT := Lib.hid hYB
     rw [hYB] at HAS
     have z1 := strAdd A YB (by omega)
     have z2 := strAdd (A ++ YB) ⟨#[10]⟩ (by rw [ByteArray.size_append]; show A.size + YB.size + 1 ≤ _; omega)
     have Z1 := Lib.hid z1; have Z2 := Lib.hid z2
     clear z1 z2 hys hysz hYB hsz
     go_wp2_with fail
     refine (refFaText_any y S wr _ _ (fun j hj => Nat.lt_of_lt_of_le (HSZ.out j hj) HBEL.out.size) G.out (fun h => showFa_fits h)).mono ?_
     rw [HYB.out]
     rintro e w5 ⟨rfl, hb⟩
     have HB5 := Lib.hid (Below.step HBEL.out hb)
     rw [show (⟨(told true (showFa y)).toArray⟩ : ByteArray) = YB from HYT.out]
     have z1 := Z1.out; have z2 := Z2.out
     clear hb p0 p1 p2 g0 g1
     go_wp2_with fail
     go_roundw
     case rel => exact ⟨k + 1, by omega, by go_num, by rw [HAS.out], HB5.out⟩
     case measure => simp [intOf]; omega
    ·obtain rfl : k = x.facts.length := by omega
     rw [← accR_zero]
     have B4 := Lib.hid (Below.step B3.out hbel)
     have X4 := XR
     clear hbel HBEL HLD HSZ XR X3
     go_wp2_with fail
     have HSZ := Lib.hid (fun k (hk : S k) => Nat.lt_of_lt_of_le (hS k hk) B4.out.size)
     have HLD := Lib.hid (RepRus.on (fun _ h => h) (fun k hk => B4.out.block k (hS k hk)) HR.out : RepRus S wr x.rules (.slice ha x.rules.length hc))
     clear p0 p1 p2
     generalize wr = w4 at *
     go_loopw [4, 7] (fun s i wr => ∃ k : Nat, k ≤ x.rules.length ∧ i = .int .i64 k ∧ s = .string (accR x k) ∧ Below w4.heap.size w4 wr) (fun _ i _ => x.rules.length - (intOf i).toNat)
     case atStart => exact ⟨0, Nat.zero_le _, rfl, rfl, Below.refl _ _⟩
     case round =>
      obtain ⟨k, hk, rfl, rfl, hbel⟩ := hrel
      have XR := Lib.hid (X4.out.on hbel); have HBEL := Lib.hid hbel
      obtain ⟨p0, p1, p2⟩ := XR.out.cells
      by_cases hl : k < x.rules.length
      ·have hA := (RepRus.on (fun _ h => h) (fun j hj => hbel.block j (HSZ.out j hj)) HLD.out : RepRus S wr x.rules (.slice ha x.rules.length hc))
       obtain ⟨-, hcap2, lb, lo, fa2, fc2, ga2, gc2, hga2, -, g0, g1, g2, g3, g4, g5, g⟩ := RepRus.at hA k hl
       rw [hga2] at p2
       have G := Lib.hid g
       have HAS := Lib.hid (accR_succ x k hl)
       have hsz := (acc_le HB.out k).2.2
       have HYB := Lib.hid (HRB.out _ (List.getElem_mem hl))
       clear hA g hga2 hbel
       generalize x.rules[k] = y at *
       have hys := showRu_le HYB.out
       generalize accR x k = A at *
       obtain ⟨YB, hYB⟩ : ∃ YB : ByteArray, (⟨(showRu y).toArray⟩ : ByteArray) = YB := ⟨_, rfl⟩
       have hysz : YB.size = (showRu y).length := by rw [← hYB, size_mk]
       have HYT := Lib.hid hYB
       rw [hYB] at HAS
       have z1 := strAdd A YB (by omega)
       have z2 := strAdd (A ++ YB) ⟨#[10]⟩ (by rw [ByteArray.size_append]; show A.size + YB.size + 1 ≤ _; omega)
       have Z1 := Lib.hid z1; have Z2 := Lib.hid z2
       clear z1 z2 hys hysz hYB hsz
       go_wp2_with fail
       refine (refRuText_any y S wr _ _ _ _ _ _ (fun j hj => Nat.lt_of_lt_of_le (HSZ.out j hj) HBEL.out.size) G.out).mono ?_
       rw [HYB.out]
       rintro e w5 ⟨rfl, hb⟩
       have HB5 := Lib.hid (Below.step HBEL.out hb)
       rw [show (⟨(told true (showRu y)).toArray⟩ : ByteArray) = YB from HYT.out]
       have z1 := Z1.out; have z2 := Z2.out
       clear hb p0 p1 p2 g0 g1 g2 g3 g4 g5
       go_wp2_with fail
       go_roundw
       case rel => exact ⟨k + 1, by omega, by go_num, by rw [HAS.out], HB5.out⟩
       case measure => simp [intOf]; omega
      ·obtain rfl : k = x.rules.length := by omega
       rw [accR_end]
       have B5 := Lib.hid (Below.step B4.out hbel)
       go_wp2_with fail
       go_ret
       exact ⟨rfl, B5.out⟩
end Go.Proofs.YtgjemmdhamkngaaGreatDoor
