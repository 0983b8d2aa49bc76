/-
  LocLinks, RowMany
-/
import Derived.Test.YtjohcnhiblfbnaaGreatDoorR04
import Derived.Test.YtjohcnhiblfbnaaGreatDoorR05
import Derived.Test.YtjohcnhiblfbnaaGreatDoorR07
import Derived.Test.YtjohcnhiblfbnaaGreatDoorR06
import Derived.Maps.AppendAt
namespace Go.Proofs.YtjohcnhiblfbnaaGreatDoor
open Go.RowKit Go.Maps
theorem onWay_not {l : Li} (h : isLk l = false) (a b : ByteArray) : onWay a b l = false := by rw [onWay, h]; rfl
theorem firstWay_take (a b : ByteArray) (l : List Li) {k : Nat} (h : k < l.length) : firstWay a b (l.take (k + 1)) 0 = match firstWay a b (l.take k) 0 with
  | some j => some j
  | none => if onWay a b l[k] = true then some k else none := by
 rw [List.take_succ_eq_append_getElem h, firstWay_snoc]
 cases firstWay a b (l.take k) 0 with
 | some j => rfl
 | none => simp only [List.length_take, Nat.zero_add, Nat.min_eq_left (Nat.le_of_lt h)]
theorem isLk_len {l : Li} (h : isLk l = true) : 1 < l.args.length := by
 rw [isLk] at h
 simp only [Bool.and_eq_true, decide_eq_true_eq] at h
 exact h.2.2.1
theorem LinksAt.set {w : World} {b n : Nat} {f : ByteArray → ByteArray → Option Nat} (h : LinksAt w b n f) {a : Addr} (ha : b ≠ a.block) (u : Value) : LinksAt (w.setCell a u) b n f := by
 obtain ⟨D, h, k⟩ := h
 exact ⟨D, h.setCell ha u, k⟩
theorem boxWay_set {w : World} {q : Nat} {c0 c1 : Value} (h : w.heap[q]? = some (.cells #[c0, c1] 117 (0, 0))) (d0 d1 : Value) : ((w.setCell ⟨q, 0, none⟩ d0).setCell ⟨q, 1, none⟩ d1).heap[q]? = some (.cells #[d0, d1] 117 (0, 0)) :=
 heap_setCell_same _ _ _ _ _ _ (heap_setCell_same _ _ _ _ _ _ h)
set_option maxRecDepth 100000 in
set_option maxHeartbeats 2000000 in
theorem linked_any (l : List Li) (S : Nat → Prop) (w : World) (v : Value) (hS : ∀ k, S k → k < w.heap.size) (hl : RepLis S w l v) (hlen : l.length ≤ 1000) :
  Calls Tryz.prog 76 #[v] w fun e w' => ∃ b, e = .returned (.map (some b)) ∧ w.heap.size ≤ b ∧ LinksAt w' b l.length (fun x y => firstWay x y l 0) ∧ Below w.heap.size w w' := by
 have HL := Lib.hid hl; have HS := Lib.hid hS; have HN := Lib.hid hlen
 obtain ⟨fa, fc, rfl⟩ := SlG.form hl
 clear hl hS
 have hmm := @run_makeMap Tryz.prog
 go_enter Tryz.func76, Tryz.ntmps76
 go_wp2_with fail
 have x0 := Lib.hid (linksAt_new w)
 have d0 := Lib.hid ((Below.refl w.heap.size w).alloc (Nat.le_refl _) (.map #[] 0))
 generalize w.alloc (.map #[] 0) = w1 at *
 clear hmm
 go_loopw [12] (fun i wr => ∃ k : Nat, k ≤ l.length ∧ i = .int .i64 k ∧ Hid (LinksAt wr w.heap.size k (fun x y => firstWay x y (l.take k) 0)) ∧ Below w.heap.size w wr) (fun i _ => l.length - (intOf i).toNat)
 case atStart => exact ⟨0, Nat.zero_le _, rfl, x0.out.congr (fun _ _ => rfl), d0.out⟩
 case round =>
  obtain ⟨k, hk, rfl, hlk, hbel⟩ := hrel
  by_cases hl : k < l.length
  ·have hA := (SlG.on (fun _ h => h) (fun j hj => hbel.block j (HS.out j hj)) (fun x _ c hx => RepLi.on (fun _ h => h) (fun j hj => hbel.block j (HS.out j hj)) hx) HL.out : RepLis S wr l (.slice fa l.length fc))
   obtain ⟨-, -, b, o, ga, gc, rfl, hSb, g0, g1, g2, g⟩ := RepLis.at hA k hl
   have HF := Lib.hid (fun a b => firstWay_take a b l hl)
   have G := Lib.hid g
   clear g hSb hA
   generalize l[k] = z at *
   have hba := below_alloc wr (.cells #[.int .i64 z.kind, .string z.name, .slice ga z.args.length gc] 46)
   have hbx := boxLi_new wr (.int .i64 z.kind) (.string z.name) (.slice ga z.args.length gc)
   have HB := Lib.hid (Below.step hbel hba)
   have HLK := Lib.hid (hlk.out.on hba)
   have G1 := Lib.hid (RepLi.on (fun _ h => h) (fun j hj => hba.block j (Nat.lt_of_lt_of_le (HS.out j hj) hbel.size)) G.out)
   obtain ⟨e0, e1, e2⟩ := hbx.cells
   have HX := Lib.hid hbx
   clear hba hbx hlk hbel G
   go_wp2_with fail
   clear g0 g1 g2
   obtain ⟨bx, hbx⟩ : ∃ bx, wr.heap.size = bx := ⟨_, rfl⟩
   rw [hbx] at HX ⊢
   clear hbx
   generalize wr.alloc (.cells #[.int .i64 z.kind, .string z.name, .slice ga z.args.length gc] 46) = wa at *
   refine (isLink_any z S ga gc wa (fun j hj => Nat.lt_of_lt_of_le (HS.out j hj) HB.out.size) G1.out.2.2.2.2).mono ?_
   rintro e w3 ⟨rfl, hb3⟩
   have X3 := Lib.hid (HX.out.on hb3); have B3 := Lib.hid (Below.step HB.out hb3); have K3 := Lib.hid (HLK.out.on hb3)
   have G3 := Lib.hid (RepMs.on (fun _ h => h) (fun j hj => hb3.block j (Nat.lt_of_lt_of_le (HS.out j hj) HB.out.size)) G1.out.2.2.2.2)
   clear hb3 e0 e1 e2 HX HB HLK G1
   cases hc : isLk z with
   | false =>
    have HK : Hid (LinksAt w3 w.heap.size (k + 1) (fun x y => firstWay x y (l.take (k + 1)) 0)) := by
     obtain ⟨D, ho, hf⟩ := K3.out.congr (g := fun x y => firstWay x y (l.take (k + 1)) 0) (fun a b => by
      rw [HF.out a b, onWay_not hc]
      cases firstWay a b (l.take k) 0 <;> rfl)
     exact ⟨D, ho.mono (Nat.le_succ _), hf⟩
    clear hc
    go_wp2_with fail
    go_roundw
    case rel => exact ⟨k + 1, hl, by go_num, HK, B3.out⟩
    case measure => simp [intOf]; omega
   | true =>
    have h1 := isLk_len hc
    obtain ⟨-, -, ab, ao, fa0, fc0, xa0, xc0, hga, hab, -, m0, -, -, -, -, -, t0⟩ := RepMs.at G3.out 0 (by omega)
    obtain ⟨-, -, ab', ao', fa1, fc1, xa1, xc1, hga', -, -, m1, -, -, -, -, -, t1⟩ := RepMs.at G3.out 1 h1
    rw [hga] at hga'
    obtain ⟨rfl, rfl⟩ : ab = ab' ∧ ao = ao' := by simpa using hga'
    have T0 : Hid (z.args[0].name.size ≤ maxLen) := (RepM.bounds t0).2
    have T1 : Hid (z.args[1].name.size ≤ maxLen) := (RepM.bounds t1).2
    have HW : Hid (∀ a b, onWay a b z = (eqS z.args[0].name a && eqS z.args[1].name b)) := fun a b => by rw [onWay, hc, (kind0_at (show 0 < z.args.length by omega)).2, (kind1_at h1).2]; rfl
    have M0 : Hid (w3.cell? ⟨ab, ao + 1, none⟩ = some (.string z.args[0].name)) := by show _ = _; rw [← m0]
    have M1 : Hid (w3.cell? ⟨ab, ao + 7 + 1, none⟩ = some (.string z.args[1].name)) := by show _ = _; rw [← m1]
    have AB : Hid (ab < w3.heap.size) := Nat.lt_of_lt_of_le (HS.out ab hab) B3.out.size
    have i0 : (0 : Int) < (z.args.length : Int) := by omega
    have i1 : (1 : Int) < (z.args.length : Int) := by omega
    have j0 : 0 < z.args.length := by omega
    clear m0 m1 t0 t1 hga' hab G3 hc
    subst hga
    generalize z.args[0].name = n0 at *
    generalize z.args[1].name = n1 at *
    go_wp2_with fail
    refine wp_region_factsL (by rfl) 44 (by rfl) (by kernel_rfl) (FA [.e (.pointer (some ⟨bx, 2, none⟩)), .e (.slice (some ⟨ab, ao, none⟩) z.args.length gc), .e (.pointer (some ⟨ab, ao, none⟩)), .e (.pointer (some ⟨ab, ao + 1, none⟩)), .e (.string n0), .e (.pointer (some ⟨bx, 2, none⟩)), .e (.slice (some ⟨ab, ao, none⟩) z.args.length gc), .e (.pointer (some ⟨ab, ao + 7, none⟩)), .e (.pointer (some ⟨ab, ao + 7 + 1, none⟩)), .e (.string n1), .e (.agg #[.string n0, .string n1]), .p (fun wz vz => ∃ q, vz = .pointer (some ⟨q, 0, none⟩) ∧ w3.heap.size ≤ q ∧ wz.heap[q]? = some (.cells #[.string ⟨#[]⟩, .string ⟨#[]⟩] 117 (0, 0)))]) (fun w' => Below w3.heap.size w3 w') (Below.drew (Below.refl _ _)) ⟨?s0, ?s1, ?s2, ?s3, ?s4, ?s5, ?s6, ?s7, ?s8, ?s9, ?s10, ?s11, trivial⟩ (by rfl) ?last (by decide)
    case s0 =>
     intro a w' hoff hg hdep K hK
     have h5 := off_at hoff 5 (v := .pointer (some ⟨bx, 0, none⟩)) (by kernel_rfl) rfl
     rw [if_pos (by rfl)]
     go_simp
     exact hK.out _ _ hg rfl (fun _ _ h => h)
    case s1 =>
     intro a w' hoff hg hdep K hK
     obtain ⟨_, e0, rfl⟩ := hdep 0 _ 20 (by kernel_rfl) rfl rfl
     rw [if_pos (by rfl)]
     obtain ⟨p0, p1, p2⟩ := (X3.out.on hg).cells
     go_simp
     exact hK.out _ _ hg rfl (fun _ _ h => h)
    case s2 =>
     intro a w' hoff hg hdep K hK
     obtain ⟨_, e1, rfl⟩ := hdep 1 _ 21 (by kernel_rfl) rfl rfl
     rw [if_pos (by rfl)]
     go_simp
     exact hK.out _ _ hg rfl (fun _ _ h => h)
    case s3 =>
     intro a w' hoff hg hdep K hK
     obtain ⟨_, e2, rfl⟩ := hdep 2 _ 22 (by kernel_rfl) rfl rfl
     rw [if_pos (by rfl)]
     go_simp
     exact hK.out _ _ hg rfl (fun _ _ h => h)
    case s4 =>
     intro a w' hoff hg hdep K hK
     obtain ⟨_, e3, rfl⟩ := hdep 3 _ 23 (by kernel_rfl) rfl rfl
     rw [if_pos (by rfl)]
     have q0 := (hg.cell (p := ⟨ab, ao + 1, none⟩) AB.out).trans M0.out; have q1 := (hg.cell (p := ⟨ab, ao + 7 + 1, none⟩) AB.out).trans M1.out
     go_simp
     exact hK.out _ _ hg rfl (fun _ _ h => h)
    case s5 =>
     intro a w' hoff hg hdep K hK
     have h5 := off_at hoff 5 (v := .pointer (some ⟨bx, 0, none⟩)) (by kernel_rfl) rfl
     rw [if_pos (by rfl)]
     go_simp
     exact hK.out _ _ hg rfl (fun _ _ h => h)
    case s6 =>
     intro a w' hoff hg hdep K hK
     obtain ⟨_, e5, rfl⟩ := hdep 5 _ 25 (by kernel_rfl) rfl rfl
     rw [if_pos (by rfl)]
     obtain ⟨p0, p1, p2⟩ := (X3.out.on hg).cells
     go_simp
     exact hK.out _ _ hg rfl (fun _ _ h => h)
    case s7 =>
     intro a w' hoff hg hdep K hK
     obtain ⟨_, e6, rfl⟩ := hdep 6 _ 26 (by kernel_rfl) rfl rfl
     rw [if_pos (by rfl)]
     go_simp
     exact hK.out _ _ hg rfl (fun _ _ h => h)
    case s8 =>
     intro a w' hoff hg hdep K hK
     obtain ⟨_, e7, rfl⟩ := hdep 7 _ 27 (by kernel_rfl) rfl rfl
     rw [if_pos (by rfl)]
     go_simp
     exact hK.out _ _ hg rfl (fun _ _ h => h)
    case s9 =>
     intro a w' hoff hg hdep K hK
     obtain ⟨_, e8, rfl⟩ := hdep 8 _ 28 (by kernel_rfl) rfl rfl
     rw [if_pos (by rfl)]
     have q0 := (hg.cell (p := ⟨ab, ao + 1, none⟩) AB.out).trans M0.out; have q1 := (hg.cell (p := ⟨ab, ao + 7 + 1, none⟩) AB.out).trans M1.out
     go_simp
     exact hK.out _ _ hg rfl (fun _ _ h => h)
    case s10 =>
     intro a w' hoff hg hdep K hK
     obtain ⟨_, e4, rfl⟩ := hdep 4 _ 24 (by kernel_rfl) rfl rfl
     obtain ⟨_, e9, rfl⟩ := hdep 9 _ 29 (by kernel_rfl) rfl rfl
     rw [if_pos (by rfl)]
     go_simp
     exact hK.out _ _ hg rfl (fun _ _ h => h)
    case s11 =>
     intro a w' hoff hg hdep K hK
     rw [if_pos (by rfl)]
     go_simp
     have hb := below_alloc w' (.cells #[.string ⟨#[]⟩, .string ⟨#[]⟩] 117)
     exact hK.out _ _ (Below.step hg hb) ⟨_, rfl, hg.size, alloc_new' w' _⟩ (fSt ⟨fun _ h => let ⟨q, e, h1, h2⟩ := h; ⟨q, e, h1, (hb.block q (Array.getElem?_eq_some_iff.1 h2).1).trans h2⟩, trivial⟩)
    case last =>
     intro a w' hoff hg hf
     obtain ⟨_, e0, rfl⟩ := hf 0 _ 20 (by decide) rfl rfl
     obtain ⟨_, e1, rfl⟩ := hf 1 _ 21 (by decide) rfl rfl
     obtain ⟨_, e2, rfl⟩ := hf 2 _ 22 (by decide) rfl rfl
     obtain ⟨_, e3, rfl⟩ := hf 3 _ 23 (by decide) rfl rfl
     obtain ⟨_, e4, rfl⟩ := hf 4 _ 24 (by decide) rfl rfl
     obtain ⟨_, e5, rfl⟩ := hf 5 _ 25 (by decide) rfl rfl
     obtain ⟨_, e6, rfl⟩ := hf 6 _ 26 (by decide) rfl rfl
     obtain ⟨_, e7, rfl⟩ := hf 7 _ 27 (by decide) rfl rfl
     obtain ⟨_, e8, rfl⟩ := hf 8 _ 28 (by decide) rfl rfl
     obtain ⟨_, e9, rfl⟩ := hf 9 _ 29 (by decide) rfl rfl
     obtain ⟨_, e10, rfl⟩ := hf 10 _ 30 (by decide) rfl rfl
     obtain ⟨v11, e11, (g11 : ∃ q, v11 = .pointer (some ⟨q, 0, none⟩) ∧ w3.heap.size ≤ q ∧ w'.heap[q]? = some (.cells #[.string ⟨#[]⟩, .string ⟨#[]⟩] 117 (0, 0)))⟩ := hf 11 _ 6 (by decide) rfl rfl
     obtain ⟨q, rfl, hq1, hq2⟩ := g11
     have z0 := frozen_of_row w' q 0 _ _ hq2; have z1 := frozen_of_row w' q 1 _ _ hq2
     have c0 : w'.cell? ⟨q, 0, none⟩ = some (.string ⟨#[]⟩) := cell_of_block' hq2 _ rfl
     have c1 : w'.cell? ⟨q, 1, none⟩ = some (.string ⟨#[]⟩) := cell_of_block' hq2 _ rfl
     rw [if_pos (by rfl)]
     rw [hoff.sets [(20, .pointer (some ⟨bx, 2, none⟩)), (21, .slice (some ⟨ab, ao, none⟩) z.args.length gc), (22, .pointer (some ⟨ab, ao, none⟩)), (23, .pointer (some ⟨ab, ao + 1, none⟩)), (24, .string n0), (25, .pointer (some ⟨bx, 2, none⟩)), (26, .slice (some ⟨ab, ao, none⟩) z.args.length gc), (27, .pointer (some ⟨ab, ao + 7, none⟩)), (28, .pointer (some ⟨ab, ao + 7 + 1, none⟩)), (29, .string n1), (30, .agg #[.string n0, .string n1]), (6, .pointer (some ⟨q, 0, none⟩))] (by kernel_rfl) (by intro p hp; simp only [List.mem_cons, List.not_mem_nil, or_false] at hp; rcases hp with rfl | rfl | rfl | rfl | rfl | rfl | rfl | rfl | rfl | rfl | rfl | rfl <;> assumption)]
     clear hoff hf e0 e1 e2 e3 e4 e5 e6 e7 e8 e9 e10 e11
     simp only [List.foldl_cons, List.foldl_nil, List.setIfInBounds_toArray, List.set_cons_zero, List.set_cons_succ]
     go_simp
     have hnq : (w.heap.size : Nat) ≠ q := by have h1 := K3.out.lt; intro e; rw [e] at h1; omega
     have B9 := Lib.hid (((Below.step B3.out hg).setCell (p := ⟨q, 0, none⟩) (Nat.le_trans B3.out.size hq1) (.string n0)).setCell (p := ⟨q, 1, none⟩) (Nat.le_trans B3.out.size hq1) (.string n1))
     have K9 := Lib.hid (((K3.out.on hg).set (a := ⟨q, 0, none⟩) hnq (.string n0)).set (a := ⟨q, 1, none⟩) hnq (.string n1))
     have Y9 := Lib.hid (boxWay_set hq2 (.string n0) (.string n1))
     clear hnq hq1 hq2 hg z0 z1 c0 c1
     generalize (w'.setCell ⟨q, 0, none⟩ (.string n0)).setCell ⟨q, 1, none⟩ (.string n1) = w9 at *
     obtain ⟨D, hown, hf⟩ := K9.out
     obtain ⟨lt, hkey⟩ := key_way T0.out T1.out
     have HH : Hid (Maps.has D lt = (firstWay n0 n1 (l.take k) 0).isSome) := (hf n0 n1 lt hkey).1
     have HK2 := Lib.hid hf; have HKY := Lib.hid hkey; have HOW := Lib.hid hown
     have y0 : w9.cell? ⟨q, 0, none⟩ = some (.string n0) := cell_of_block' Y9.out _ rfl
     have y1 : w9.cell? ⟨q, 1, none⟩ = some (.string n1) := cell_of_block' Y9.out _ rfl
     rw [wayV] at hkey
     clear hf
     cases hfw : firstWay n0 n1 (l.take k) 0 with
     | some j =>
      have HH2 : Hid (Maps.has D lt = true) := by show _ = _; rw [HH.out, hfw]; rfl
      have HK : Hid (LinksAt w9 w.heap.size (k + 1) (fun x y => firstWay x y (l.take (k + 1)) 0)) := by
       obtain ⟨D, ho, hf⟩ := K9.out.congr (g := fun x y => firstWay x y (l.take (k + 1)) 0) (fun a b => by
        rw [HF.out a b]
        cases ha : firstWay a b (l.take k) 0 with
        | some j => rfl
        | none =>
         rw [HW.out]
         by_cases hab : n0 = a ∧ n1 = b
         ·obtain ⟨rfl, rfl⟩ := hab; rw [hfw] at ha; cases ha
         ·have : (eqS n0 a && eqS n1 b) = false := by
           rw [Bool.eq_false_iff]; intro h; rw [Bool.and_eq_true, eqS_iff, eqS_iff] at h; exact hab h
          rw [this]; rfl)
       exact ⟨D, ho.mono (Nat.le_succ _), hf⟩
      clear hfw
      go_wp2_with (first
       | (at_lookup; refine wpList_lookup_own_ok_int _ rfl _ _ 112 rfl 117 3 .i64 keyWay Tryz.underlying112 Tryz.underlying3 (zeroInt _) w.heap.size k _ rfl hown _ _ rfl hkey ?_; intro c hat hwc; rw [HH2.out])
       | fail)
      go_roundw
      case rel => exact ⟨k + 1, hl, by go_num, HK, B9.out⟩
      case measure => simp [intOf]; omega
     | none =>
      have HH2 : Hid (Maps.has D lt = false) := by show _ = _; rw [HH.out, hfw]; rfl
      have HPU : Hid (∀ w10 : World, w10.ownsMap Tryz.prog 117 (plainElem Tryz.prog 3) w.heap.size (k + 1) (D.put lt (.lit (.int .i64 (k : Int)))) → LinksAt w10 w.heap.size (k + 1) (fun x y => firstWay x y (l.take (k + 1)) 0)) := by
       intro w10 ho
       refine (links_put ho HOW.out.isMap HKY.out HK2.out).congr fun a b => ?_
       rw [HF.out a b, HW.out]
       by_cases hab : a = n0 ∧ b = n1
       ·obtain ⟨rfl, rfl⟩ := hab
        have : (eqS a a && eqS b b) = true := by rw [Bool.and_eq_true, eqS_iff, eqS_iff]; exact ⟨rfl, rfl⟩
        rw [hfw, this]; simp
       ·have : (eqS n0 a && eqS n1 b) = false := by
         rw [Bool.eq_false_iff]; intro h; rw [Bool.and_eq_true, eqS_iff, eqS_iff] at h; exact hab ⟨h.1.symm, h.2.symm⟩
        rw [this, if_neg hab]
        cases firstWay a b (l.take k) 0 <;> rfl
      have hwf : plainElem (H := Unit) Tryz.prog 3 (.int .i64 (k : Int)) = some (.lit (.int .i64 (k : Int)), []) := plainElem_int Tryz.underlying3 (by
       have h1 := HN.out; have h2 := hl
       have e1 : IntKind.i64.min = -9223372036854775808 := by decide
       have e2 : IntKind.i64.max = 9223372036854775807 := by decide
       simp only [Lit.wf, e1, e2, Bool.and_eq_true, decide_eq_true_eq]; omega)
      have hkm : k < maxLen := by have := HN.out; unfold maxLen; omega
      clear hfw
      go_wp2_with (first
       | (at_lookup; refine wpList_lookup_own_ok_int _ rfl _ _ 112 rfl 117 3 .i64 keyWay Tryz.underlying112 Tryz.underlying3 (zeroInt _) w.heap.size k _ rfl hown _ _ rfl hkey ?_; intro c hat hwc; rw [HH2.out])
       | (at_mapUpdate; refine wpList_mapUpdate_own _ rfl _ _ _ 112 rfl 117 3 keyWay Tryz.underlying112 (plainElem Tryz.prog 3) w.heap.size k _ rfl hown hkm _ _ _ rfl rfl hkey _ [] hwf ?_; intro w10 hown1 hgrow1)
       | fail)
      have HKN := Lib.hid (HPU.out w10 hown1)
      have B10 := Lib.hid (B9.out.grown hgrow1 B9.out.size (fun j e => by cases e; exact Nat.le_refl _))
      clear hown1 hgrow1
      go_wp2_with fail
      go_roundw
      case rel => exact ⟨k + 1, hl, by go_num, HKN, B10.out⟩
      case measure => simp [intOf]; omega
  ·have HE : Hid (LinksAt wr w.heap.size l.length (fun x y => firstWay x y l 0)) := by
    have hkl : k = l.length := by omega
    subst hkl
    exact hlk.out.congr (fun _ _ => by rw [List.take_length])
   go_wp2_with fail
   go_ret
   exact ⟨_, rfl, Nat.le_refl _, HE.out, hbel⟩
end Go.Proofs.YtjohcnhiblfbnaaGreatDoor
namespace Go.Proofs.YtjohcnhiblfbnaaGreatDoor
open Go.RowKit
theorem mod_of' {i j n : Nat} (hj : j < n) : (i * n + j) / n = i ∧ (i * n + j) % n = j := by
 have hn : 0 < n := by omega
 constructor
 ·rw [Nat.mul_comm, Nat.mul_add_div hn, Nat.div_eq_of_lt hj, Nat.add_zero]
 ·rw [Nat.mul_comm, Nat.mul_add_mod, Nat.mod_eq_of_lt hj]
theorem SlG.flat {α : Type} {S : Nat → Prop} {w : World} {n bytes : Nat} {R : α → (Nat → Value) → Prop} {l : List α} {b o c len : Nat} (hn : 0 < n) (h : SlG S w n bytes R l (.slice (some ⟨b, o, none⟩) len c)) :
  len = l.length ∧ len ≤ c ∧ ∃ ys : List Value, ys.length = l.length * n ∧ (∀ m u, ys[m]? = some u → w.cell? ⟨b, o + m, none⟩ = some u) ∧ (∀ i (h : i < l.length), ∃ f : Nat → Value, (∀ j, j < n → ys[i * n + j]? = some (f j)) ∧ R l[i] f) ∧ (∀ u ∈ ys, ∃ i, ∃ (h : i < l.length) (f : Nat → Value) (j : Nat), j < n ∧ u = f j ∧ R l[i] f) := by
 obtain ⟨a', b', o', cap, e, h6, h7, h8, h9, h10⟩ := h
 cases e
 refine ⟨rfl, h6, ?_⟩
 have hob : 0 < l.length → b = b' ∧ o = o' := fun h0 => by have := h8 (by omega); injection this with e; injection e with e1 e2; exact ⟨e1, e2⟩
 have hch : ∃ C : Nat → Nat → Value, ∀ i (h : i < l.length), (∀ j, j < n → w.cell? ⟨b', o' + i * n + j, none⟩ = some (C i j)) ∧ R l[i] (C i) := by
  refine ⟨fun i => if h : i < l.length then (h10 i h).choose else fun _ => .int .i64 0, fun i h => ?_⟩
  simp only [dif_pos h]
  exact (h10 i h).choose_spec
 obtain ⟨C, hC⟩ := hch
 have hgm : ∀ (m : Nat) (u : Value), ((List.range (l.length * n)).map (fun m => C (m / n) (m % n)))[m]? = some u → ∃ i j, i < l.length ∧ j < n ∧ m = i * n + j ∧ u = C i j := fun m u hu => by
  have hm : m < l.length * n := by
   by_cases hm : m < l.length * n
   ·exact hm
   ·rw [List.getElem?_eq_none (by simp; omega)] at hu
    cases hu
  rw [List.getElem?_map, List.getElem?_range hm] at hu
  refine ⟨m / n, m % n, Nat.div_lt_of_lt_mul (by rw [Nat.mul_comm]; exact hm), Nat.mod_lt _ hn, ?_, (Option.some.inj hu).symm⟩
  rw [Nat.mul_comm]; exact (Nat.div_add_mod m n).symm
 refine ⟨(List.range (l.length * n)).map (fun m => C (m / n) (m % n)), by simp, fun m u hu => ?_, fun i hi => ⟨C i, fun j hj => ?_, (hC i hi).2⟩, fun u hu => ?_⟩
 ·obtain ⟨i, j, hi, hj, rfl, rfl⟩ := hgm m u hu
  obtain ⟨rfl, rfl⟩ := hob (by omega)
  rw [← Nat.add_assoc]
  exact (hC i hi).1 j hj
 ·obtain ⟨m1, m2⟩ := mod_of' (i := i) hj
  have hlt : i * n + j < l.length * n := by
   have : (i + 1) * n ≤ l.length * n := Nat.mul_le_mul_right _ hi
   rw [Nat.succ_mul] at this; omega
  rw [List.getElem?_map, List.getElem?_range hlt, Option.map_some, m1, m2]
 ·obtain ⟨m, hm, rfl⟩ := List.getElem_of_mem hu
  obtain ⟨i, j, hi, hj, -, e⟩ := hgm m _ (List.getElem?_eq_getElem hm)
  exact ⟨i, hi, C i, j, hj, e, (hC i hi).2⟩
theorem OwnK.nil {α : Type} {K : Kd α} (S : Nat → Prop) (w : World) (base : Nat) : OwnK K S w base [] (.slice none 0 0) := ⟨[], World.ownsRow_nil _ _ _ _, fun i hi => by simp at hi⟩
theorem OwnK.slg' {α : Type} {K : Kd α} {S S' : Nat → Prop} {w : World} {base : Nat} {l : List α} {v : Value} (h : OwnK K S w base l v) (hSS : ∀ k, S k → S' k) (hS : ∀ k, base ≤ k → k < w.heap.size → S' k) (hl : l.length ≤ 100000) : SlG S' w K.n K.bytes (K.R S' w) l v := by
 obtain ⟨xs, ⟨hlen, hown⟩, hr⟩ := h
 have hby : l.length * K.bytes ≤ 140737488355328 := by
  have := Nat.mul_le_mul hl K.few
  omega
 rcases hown with ⟨rfl, hn⟩ | ⟨g, cap, cur, rfl, hbg, hh, hnc, hcm, hcs, htk⟩
 ·obtain rfl : l = [] := List.length_eq_zero_iff.1 hn
  exact ⟨none, 0, 0, 0, rfl, Nat.le_refl _, by simp, fun h => by omega, fun h => by simp at h, fun i hi => by simp at hi⟩
 ·have hgl := (Array.getElem?_eq_some_iff.1 hh).1
  refine ⟨_, g, 0, cap, rfl, hnc, hby, fun _ => rfl, fun _ => hS g hbg hgl, fun i hi => ?_⟩
  obtain ⟨c, hc, hR⟩ := hr i hi
  refine ⟨c, fun j hj => ?_, K.on hSS (fun _ _ => rfl) hR⟩
  have h1 := hc j hj
  rw [← htk, List.getElem?_take] at h1
  have hlt : i * K.n + j < l.length * K.n := by
   have : (i + 1) * K.n ≤ l.length * K.n := Nat.mul_le_mul_right _ hi
   rw [Nat.succ_mul] at this; omega
  rw [if_pos hlt] at h1
  rw [show 0 + i * K.n + j = i * K.n + j by omega]
  exact cell_of_block' hh _ (by rw [← Array.getElem?_toList]; exact h1)
end Go.Proofs.YtjohcnhiblfbnaaGreatDoor
