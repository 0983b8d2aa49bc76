/-
  LawLNames
-/
import Derived.Test.YtjohcnhiblfbnaaGreatDoorQ23
import Derived.Test.YtjohcnhiblfbnaaGreatDoorQ29
import Derived.Test.YtjohcnhiblfbnaaGreatDoorQ30
import Derived.Test.YtjohcnhiblfbnaaGreatDoorQ11
import Derived.Test.YtjohcnhiblfbnaaGreatDoorQ09
namespace Go.Proofs.YtjohcnhiblfbnaaGreatDoor.locateNames
open Go.RowKit
theorem liB_args {x : Li} (h : liB x = true) : x.args.length ≤ 8 := by
 have ha : ∀ {s : ByteArray}, atomB s x.args = true → x.args.length ≤ 8 := fun h => by
  rw [atomB] at h; simp only [Bool.and_eq_true] at h
  have := (listB_bounds h.2.1).2.1; omega
 rw [liB] at h
 split at h
 ·exact ha h
 split at h
 ·exact ha h
 split at h
 ·rw [Bool.and_eq_true] at h; have := (listB_bounds h.2).2.1; omega
 split at h
 ·rw [Bool.and_eq_true] at h; have := (listB_bounds h.2).2.1; omega
 ·cases h
theorem liB_name {x : Li} (h : liB x = true) (hk : x.kind = 4) : varB x.name = true := by
 rw [liB, if_neg (by omega), if_neg (by omega), if_neg (by omega), if_pos hk, Bool.and_eq_true] at h
 exact h.1
theorem ru_parts {r : Ru} (h : ruB r = true) : r.args.length ≤ 8 ∧ r.body.length ≤ 8 ∧ ∀ x ∈ r.body, liB x = true := by
 rw [ruB] at h
 simp only [Bool.and_eq_true] at h
 obtain ⟨-, h1, -, h2⟩ := h
 obtain ⟨-, b2, b3⟩ := listB_bounds h2
 rw [atomB] at h1; simp only [Bool.and_eq_true] at h1
 have := (listB_bounds h1.2.1).2.1
 exact ⟨by omega, by omega, b3⟩
theorem loc_sizes {r : Ru} {p : Pl} (ok : (placeZ r).2 = true) (hp : placeZ r = (p, true)) : p.from'.size ≤ 16 ∧ p.to'.size ≤ 16 ∧ p.head.size ≤ 16 := by
 obtain ⟨h1, -, h3, h4, h5, -, h7⟩ := placeZ_ok ok
 obtain rfl : p = (bodyPlaceZ r).1 := congrArg Prod.fst (hp.symm.trans h7)
 have vs : ∀ {s : ByteArray}, varB s = true → s.size ≤ 16 := fun h => by
  rw [varB, decide_eq_true_eq] at h; exact h.2.1
 have hv : ∀ s ∈ placesL [] r.body, s.size ≤ 16 := fun s hs => vs (places_var h1 h3 s hs)
 obtain ⟨-, hh, hc⟩ := bodyPlace_ok h5
 refine ⟨hv _ (from_in h5), ?_, ?_⟩
 ·rcases hc with h | ⟨a, b, e1, e2, -⟩
  ·rw [h.2.1]; decide
  ·rcases e2 with e2 | e2
   ·rw [e2.2]; exact hv _ (by rw [e1]; simp)
   ·rw [e2.2]; exact hv _ (by rw [e1]; simp)
 ·rw [hh]
  have ha := (ru_args h1).1
  cases hl : r.args with
  | nil => rw [hl] at h4; cases h4
  | cons t l =>
   rw [hl] at h4 ha
   exact vs (var_of (ha t (List.mem_cons_self ..)) h4)
def MineN {α : Type} (K : Kd α) (q : Nat) (w : World) (B : Nat) (l : List α) (v : Value) : Prop := OwnK K (fun b => b ≠ q ∧ b < w.heap.size ∧ v.ownBlock ≠ some b) w B l v
theorem MineN.on {α : Type} {K : Kd α} {q : Nat} {w w' : World} {B : Nat} {l : List α} {v : Value} (h : MineN K q w B l v) (hb : But q w.heap.size w w') (hB : q < B) : MineN K q w' B l v :=
 OwnK.on h (fun k hk => ⟨hk.1, Nat.lt_of_lt_of_le hk.2.1 hb.size, hk.2.2⟩) (fun k hk => hb.block k hk.2.1 hk.1) (fun k h1 h2 _ => hb.block k h2 (by omega))
theorem MineN.append {α : Type} {K : Kd α} {q : Nat} {w : World} {B : Nat} {L : List α} {lv : Value} {y : α} {b : Nat} {cs : Array Value} {t : TypeId} {fz : Nat × Nat} {c : Nat → Value} (h : MineN K q w B L lv) (hB : B ≤ w.heap.size) (hlen : L.length ≤ 1000)
  (hb : w.heap[b]? = some (.cells cs t fz)) (hc : ∀ j, j < K.n → cs[j]? = some (c j)) (hR : K.R (fun b => b ≠ q ∧ b < w.heap.size ∧ lv.ownBlock ≠ some b) w y c) (ty : TypeId) :
  ∃ (a : Option Addr) (cap : Nat) (w6 : World), (Builtin.append_ #[K.ST, K.ST] ty #[lv, .slice (some ⟨b, 0, none⟩) 1 1]).run Tryz.prog w = .ok (.slice a (L.length + 1) cap) w6 ∧ MineN K q w6 B (L ++ [y]) (.slice a (L.length + 1) cap) ∧ w.grownBy w6 lv.ownBlock := by
 obtain ⟨v', w6, hrun, ho, hg, h5⟩ := own_manyH (S1 := fun _ => True) (m := [y]) h (one_row (c := c) hb trivial hc hR) (fun k hk => ⟨hk.2.1, hk.2.2⟩) hB (by simp; omega) ty
 have hm : MineN K q w6 B (L ++ [y]) v' := OwnK.on ho (fun k hk => ⟨hk.1, Nat.lt_of_lt_of_le hk.2.1 hg.size, fun e => by
  rcases h5 with h5 | h5
  ·exact hk.2.2 (h5.symm.trans e)
  ·rw [h5] at e; have := Option.some.inj e; omega⟩) (fun _ _ => rfl) (fun _ _ _ _ => rfl)
 obtain ⟨a, cap, rfl⟩ := OwnK.form hm
 rw [List.length_append, List.length_singleton] at hrun hm
 exact ⟨a, cap, w6, hrun, hm, hg⟩
theorem SX.of {k B w0 : Nat} {T T' : TypeId} {w : World} (hB : B ≤ w0) (hT : T' ≠ T) {b : Nat} (h : b < k ∨ (w0 ≤ b ∧ b < w.heap.size ∧ TyB T' w b)) : SX k B T w b := by
 rcases h with h | ⟨h1, h2, cs, fz, h3⟩
 ·exact .inl h
 ·exact .inr ⟨Nat.le_trans hB h1, h2, fun cs' fz' e => by
   have := h3.symm.trans e
   simp only [Option.some.injEq, Obj.cells.injEq] at this
   exact hT this.2.1⟩
set_option maxRecDepth 100000 in
set_option maxHeartbeats 8000000 in
theorem walk (l : List Rw) (W : World) (va : Value) (htab : TabOk W) (ga : RepRws (fun k => k < W.heap.size) W l va) :
  Calls Tryz.prog 7 #[va] W fun e W' => e = .returned (.bool true) ∧ Below W.heap.size W W' := by
 have GA := Lib.hid ga; have HT := Lib.hid htab; have HG : Hid (0 < W.heap.size) := tab_lt htab
 obtain ⟨la, lc, rfl⟩ := SlG.form ga
 clear ga htab
 go_enter Tryz.func7, Tryz.ntmps7
 go_wp2_with fail
 refine (awake7_any W HG.out HT.out).mono ?_
 rintro e w1 ⟨rfl, hb⟩
 have B1 := Lib.hid hb
 clear hb
 go_wp2_with fail
 refine (rule_any l 0 (fun k => k < W.heap.size) w1 la lc (fun k hk => Nat.lt_of_lt_of_le hk B1.out.size) (SlG.on (fun _ h => h) (fun k hk => B1.out.block k hk) (fun _ _ _ h => h) GA.out) (small64 (by omega))).mono ?_
 rintro e w2 ⟨v2, v5, rfl, hrep, hb⟩
 have HRB := Lib.hid (right_rule l 0)
 have HFW := Lib.hid (few_rule l 0)
 generalize ruleZ l 0 = r at *
 obtain ⟨xa, xc, rfl⟩ := SlG.form hrep.2.2.2.2.2.2.2.2.1
 obtain ⟨ya, yc, rfl⟩ := SlG.form hrep.2.2.2.2.2.2.2.2.2
 have HRP := Lib.hid hrep; have B2 := Lib.hid (Below.step B1.out hb)
 clear hrep hb B1 GA
 go_upto_region 3 with fail
 have mk := boxRu_new w2 (.string r.label) (.string r.head) (.slice xa r.args.length xc) (.string r.agg) (.int .i64 r.at') (.slice ya r.body.length yc)
 have da := below_alloc w2 (.cells #[.string r.label, .string r.head, .slice xa r.args.length xc, .string r.agg, .int .i64 r.at', .slice ya r.body.length yc] 43)
 have sa := World.size_alloc w2 (.cells #[.string r.label, .string r.head, .slice xa r.args.length xc, .string r.agg, .int .i64 r.at', .slice ya r.body.length yc] 43)
 generalize w2.alloc (.cells #[.string r.label, .string r.head, .slice xa r.args.length xc, .string r.agg, .int .i64 r.at', .slice ya r.body.length yc] 43) = w3 at *
 have GR : Hid (RepRu (fun k => k < w2.heap.size) w3 r (.string r.label) (.string r.head) (.slice xa r.args.length xc) (.string r.agg) (.int .i64 r.at') (.slice ya r.body.length yc)) := RepRu.on (fun k hk => hk.2) (fun k hk => da.block k hk.2) HRP.out
 have BW := Lib.hid (Below.step B2.out da)
 obtain ⟨k4, hk4⟩ : ∃ k, w2.heap.size = k := ⟨_, rfl⟩
 have hwk : W.heap.size ≤ k4 := by rw [← hk4]; exact B2.out.size
 rw [hk4] at mk GR sa ⊢
 have X4 := Lib.hid mk
 have KK : Hid (W.heap.size ≤ k4 ∧ k4 < w3.heap.size) := ⟨hwk, by omega⟩
 clear mk da sa hk4 HRP B2 hwk
 have HRP := Lib.hid (ru_parts HRB.out)
 refine wp_region_factsU (by rfl) 96 (by rfl) (by kernel_rfl) (FA [.e (.pointer (some ⟨k4, 0, none⟩)), .e (.string r.label), .e (.pointer (some ⟨k4, 1, none⟩)), .e (.string r.head), .e (.pointer (some ⟨k4, 2, none⟩)), .e (.slice xa r.args.length xc), .p (fun wz vz => ∃ a n c, vz = .slice a n c ∧ RepMs (SX k4 w3.heap.size 43 wz) wz (turnL r.args) vz), .e (.pointer (some ⟨k4, 3, none⟩)), .e (.string r.agg), .e (.pointer (some ⟨k4, 4, none⟩)), .e (.int .i64 r.at'), .p (fun wz vz => ∃ s, vz = .agg #[.string r.label, .string r.head, s, .string r.agg, .int .i64 r.at', .slice none 0 0] ∧ RepMs (SX k4 w3.heap.size 43 wz) wz (turnL r.args) s), .p (fun wz vz => ∃ q, vz = .pointer (some ⟨q, 0, none⟩) ∧ w3.heap.size ≤ q ∧ ∃ c0 c1 c2 c3 c4 c5, BoxRu wz q c0 c1 c2 c3 c4 c5), .p (fun wz vz => ∃ q s, vz = .pointer (some ⟨q, 0, none⟩) ∧ w3.heap.size ≤ q ∧ BoxRu wz q (.string r.label) (.string r.head) s (.string r.agg) (.int .i64 r.at') (.slice none 0 0) ∧ RepMs (SX k4 w3.heap.size 43 wz) wz (turnL r.args) s)]) (fun w' => Below w3.heap.size w3 w') (Below.drew (Below.refl _ _)) ⟨?s0, ?s1, ?s2, ?s3, ?s4, ?s5, ?s6, ?s7, ?s8, ?s9, ?s10, ?s11, ?s12, ?s13, trivial⟩ ?fin
 case s0 =>
  intro a w' hoff hg hdep K hK
  have h4 := off_at hoff 4 (v := .pointer (some ⟨k4, 0, none⟩)) (by kernel_rfl) rfl
  rw [if_pos (by rfl)]
  go_simp
  exact hK.out _ _ hg rfl (fun _ _ h => h)
 case s1 =>
  intro a w' hoff hg hdep K hK
  obtain ⟨_, e0, rfl⟩ := hdep 0 _ 16 (by kernel_rfl) rfl rfl
  rw [if_pos (by rfl)]
  obtain ⟨o0, o1, o2, o3, o4, o5⟩ := (X4.out.on hg).cells
  go_simp
  exact hK.out _ _ hg rfl (fun _ _ h => h)
 case s2 =>
  intro a w' hoff hg hdep K hK
  have h4 := off_at hoff 4 (v := .pointer (some ⟨k4, 0, none⟩)) (by kernel_rfl) rfl
  rw [if_pos (by rfl)]
  go_simp
  exact hK.out _ _ hg rfl (fun _ _ h => h)
 case s3 =>
  intro a w' hoff hg hdep K hK
  obtain ⟨_, e2, rfl⟩ := hdep 2 _ 18 (by kernel_rfl) rfl rfl
  rw [if_pos (by rfl)]
  obtain ⟨o0, o1, o2, o3, o4, o5⟩ := (X4.out.on hg).cells
  go_simp
  exact hK.out _ _ hg rfl (fun _ _ h => h)
 case s4 =>
  intro a w' hoff hg hdep K hK
  have h4 := off_at hoff 4 (v := .pointer (some ⟨k4, 0, none⟩)) (by kernel_rfl) rfl
  rw [if_pos (by rfl)]
  go_simp
  exact hK.out _ _ hg rfl (fun _ _ h => h)
 case s5 =>
  intro a w' hoff hg hdep K hK
  obtain ⟨_, e4, rfl⟩ := hdep 4 _ 20 (by kernel_rfl) rfl rfl
  rw [if_pos (by rfl)]
  obtain ⟨o0, o1, o2, o3, o4, o5⟩ := (X4.out.on hg).cells
  go_simp
  exact hK.out _ _ hg rfl (fun _ _ h => h)
 case s6 =>
  intro a w' hoff hg hdep K hK
  obtain ⟨_, e5, rfl⟩ := hdep 5 _ 21 (by kernel_rfl) rfl rfl
  rw [if_pos (by rfl)]
  go_simp
  refine (turned7_any 8 r.args HRP.out.1 (ru_args HRB.out).1 (fun k => k < k4) w' _ (fun k hk => Nat.lt_trans hk (Nat.lt_of_lt_of_le KK.out.2 hg.size)) (RepMs.on (fun _ h => h) (fun k hk => hg.block k (Nat.lt_trans hk KK.out.2)) GR.out.2.2.2.2.2.2.2.2.1)).mono ?_
  rintro e w2' ⟨u, rfl, hrep, hb⟩
  obtain ⟨ua, uc, rfl⟩ := SlG.form hrep
  exact hK.out _ _ (Below.step hg hb) ⟨_, _, _, rfl, RepMs.on (fun b h => SX.of hg.size (by decide) h) (fun _ _ => rfl) hrep⟩ (fSt ⟨fun _ h => let ⟨a, n, c, e, h⟩ := h; ⟨a, n, c, e, RepMs.on (fun _ k => k.on hb) (fun _ k => k.keep (Nat.le_of_lt (Nat.lt_of_lt_of_le KK.out.2 hg.size)) hb) h⟩, fun _ h => let ⟨s, e, h⟩ := h; ⟨s, e, RepMs.on (fun _ k => k.on hb) (fun _ k => k.keep (Nat.le_of_lt (Nat.lt_of_lt_of_le KK.out.2 hg.size)) hb) h⟩, fun _ h => let ⟨q, e, h1, c0, c1, c2, c3, c4, c5, h2⟩ := h; ⟨q, e, h1, c0, c1, c2, c3, c4, c5, h2.on hb⟩, fun _ h => let ⟨q, s, e, h1, h2, h3⟩ := h; ⟨q, s, e, h1, h2.on hb, RepMs.on (fun _ k => k.on hb) (fun _ k => k.keep (Nat.le_of_lt (Nat.lt_of_lt_of_le KK.out.2 hg.size)) hb) h3⟩, trivial⟩)
 case s7 =>
  intro a w' hoff hg hdep K hK
  have h4 := off_at hoff 4 (v := .pointer (some ⟨k4, 0, none⟩)) (by kernel_rfl) rfl
  rw [if_pos (by rfl)]
  go_simp
  exact hK.out _ _ hg rfl (fun _ _ h => h)
 case s8 =>
  intro a w' hoff hg hdep K hK
  obtain ⟨_, e7, rfl⟩ := hdep 7 _ 23 (by kernel_rfl) rfl rfl
  rw [if_pos (by rfl)]
  obtain ⟨o0, o1, o2, o3, o4, o5⟩ := (X4.out.on hg).cells
  go_simp
  exact hK.out _ _ hg rfl (fun _ _ h => h)
 case s9 =>
  intro a w' hoff hg hdep K hK
  have h4 := off_at hoff 4 (v := .pointer (some ⟨k4, 0, none⟩)) (by kernel_rfl) rfl
  rw [if_pos (by rfl)]
  go_simp
  exact hK.out _ _ hg rfl (fun _ _ h => h)
 case s10 =>
  intro a w' hoff hg hdep K hK
  obtain ⟨_, e9, rfl⟩ := hdep 9 _ 25 (by kernel_rfl) rfl rfl
  rw [if_pos (by rfl)]
  obtain ⟨o0, o1, o2, o3, o4, o5⟩ := (X4.out.on hg).cells
  go_simp
  exact hK.out _ _ hg rfl (fun _ _ h => h)
 case s11 =>
  intro a w' hoff hg hdep K hK
  obtain ⟨_, e1, rfl⟩ := hdep 1 _ 17 (by kernel_rfl) rfl rfl
  obtain ⟨_, e3, rfl⟩ := hdep 3 _ 19 (by kernel_rfl) rfl rfl
  obtain ⟨v6, e6, (g6 : ∃ a n c, v6 = .slice a n c ∧ RepMs (SX k4 w3.heap.size 43 w') w' (turnL r.args) v6)⟩ := hdep 6 _ 22 (by kernel_rfl) rfl rfl
  obtain ⟨_, e8, rfl⟩ := hdep 8 _ 24 (by kernel_rfl) rfl rfl
  obtain ⟨_, e10, rfl⟩ := hdep 10 _ 26 (by kernel_rfl) rfl rfl
  rw [if_pos (by rfl)]
  obtain ⟨ra, rn, rcc, rfl, hT⟩ := g6
  go_simp
  exact hK.out _ _ hg ⟨_, rfl, hT⟩ (fun _ _ h => h)
 case s12 =>
  intro a w' hoff hg hdep K hK
  rw [if_pos (by rfl)]
  go_simp
  have hb := below_alloc w' (.cells #[.string ⟨#[]⟩, .string ⟨#[]⟩, .slice none 0 0, .string ⟨#[]⟩, .int .i64 0, .slice none 0 0] 43)
  exact hK.out _ _ (Below.step hg hb) ⟨_, rfl, hg.size, _, _, _, _, _, _, boxRu_new w' _ _ _ _ _ _⟩ (fSt ⟨fun _ h => let ⟨a, n, c, e, h⟩ := h; ⟨a, n, c, e, RepMs.on (fun _ k => k.on hb) (fun _ k => k.keep (Nat.le_of_lt (Nat.lt_of_lt_of_le KK.out.2 hg.size)) hb) h⟩, fun _ h => let ⟨s, e, h⟩ := h; ⟨s, e, RepMs.on (fun _ k => k.on hb) (fun _ k => k.keep (Nat.le_of_lt (Nat.lt_of_lt_of_le KK.out.2 hg.size)) hb) h⟩, fun _ h => let ⟨q, e, h1, c0, c1, c2, c3, c4, c5, h2⟩ := h; ⟨q, e, h1, c0, c1, c2, c3, c4, c5, h2.on hb⟩, fun _ h => let ⟨q, s, e, h1, h2, h3⟩ := h; ⟨q, s, e, h1, h2.on hb, RepMs.on (fun _ k => k.on hb) (fun _ k => k.keep (Nat.le_of_lt (Nat.lt_of_lt_of_le KK.out.2 hg.size)) hb) h3⟩, trivial⟩)
 case s13 =>
  intro a w' hoff hg hdep K hK
  obtain ⟨v12, e12, (g12 : ∃ q, v12 = .pointer (some ⟨q, 0, none⟩) ∧ w3.heap.size ≤ q ∧ ∃ c0 c1 c2 c3 c4 c5, BoxRu w' q c0 c1 c2 c3 c4 c5)⟩ := hdep 12 _ 5 (by kernel_rfl) rfl rfl
  obtain ⟨v11, e11, (g11 : ∃ s, v11 = .agg #[.string r.label, .string r.head, s, .string r.agg, .int .i64 r.at', .slice none 0 0] ∧ RepMs (SX k4 w3.heap.size 43 w') w' (turnL r.args) s)⟩ := hdep 11 _ 27 (by kernel_rfl) rfl rfl
  rw [if_pos (by rfl)]
  obtain ⟨s, rfl, hS9⟩ := g11
  obtain ⟨q, rfl, hq, c0, c1, c2, c3, c4, c5, hbx⟩ := g12
  obtain ⟨t0, t1, t2, t3, t4, t5⟩ := hbx.cells
  have z0 := frozen_of_row w' q 0 _ _ hbx
  have z1 := frozen_of_row w' q 1 _ _ hbx
  have z2 := frozen_of_row w' q 2 _ _ hbx
  have z3 := frozen_of_row w' q 3 _ _ hbx
  have z4 := frozen_of_row w' q 4 _ _ hbx
  have z5 := frozen_of_row w' q 5 _ _ hbx
  have e99 := e12
  obtain ⟨sa, sn, sc, hsf⟩ : ∃ a n c, s = .slice a n c := (let ⟨a, c, e⟩ := SlG.form hS9; ⟨a, _, c, e⟩)
  subst hsf
  go_simp
  have hb2 := set6_box hbx (.string r.label) (.string r.head) (.slice sa sn sc) (.string r.agg) (.int .i64 r.at') (.slice none 0 0)
  have hsz : ∀ k, k ≠ q → (((((((w'.setCell ⟨q, 0, none⟩ (.string r.label)).setCell ⟨q, 1, none⟩ (.string r.head)).setCell ⟨q, 2, none⟩ (.slice sa sn sc)).setCell ⟨q, 3, none⟩ (.string r.agg)).setCell ⟨q, 4, none⟩ (.int .i64 r.at')).setCell ⟨q, 5, none⟩ (.slice none 0 0))).heap[k]? = w'.heap[k]? := fun k hk => by rw [Below.heap_setCell _ _ _ _ hk, Below.heap_setCell _ _ _ _ hk, Below.heap_setCell _ _ _ _ hk, Below.heap_setCell _ _ _ _ hk, Below.heap_setCell _ _ _ _ hk, Below.heap_setCell _ _ _ _ hk]
  have hoo := SX.off (k := k4) (B := w3.heap.size) hbx (Nat.le_trans (Nat.le_of_lt KK.out.2) hq) hsz (by simp [World.setCell])
  exact hK.out _ _ ((((((hg.setCell (p := ⟨q, 0, none⟩) hq _).setCell (p := ⟨q, 1, none⟩) hq _).setCell (p := ⟨q, 2, none⟩) hq _).setCell (p := ⟨q, 3, none⟩) hq _).setCell (p := ⟨q, 4, none⟩) hq _).setCell (p := ⟨q, 5, none⟩) hq _) ⟨q, _, rfl, hq, hb2, RepMs.on hoo.1 hoo.2 hS9⟩ (fSt ⟨fun _ h => let ⟨a, n, c, e, h⟩ := h; ⟨a, n, c, e, RepMs.on hoo.1 hoo.2 h⟩, fun _ h => let ⟨s, e, h⟩ := h; ⟨s, e, RepMs.on hoo.1 hoo.2 h⟩, fun _ h => (let ⟨p, e, h1, d0, d1, d2, d3, d4, d5, h2⟩ := h; match Nat.decEq p q with | .isTrue hp => ⟨p, e, h1, .string r.label, .string r.head, .slice sa sn sc, .string r.agg, .int .i64 r.at', .slice none 0 0, (by rw [hp]; exact hb2)⟩ | .isFalse hp => ⟨p, e, h1, d0, d1, d2, d3, d4, d5, (hsz p hp).trans h2⟩), fun _ h => (let ⟨p, s, e, h1, h2, h3⟩ := h; match Nat.decEq p q with | .isTrue hp => ⟨p, .slice sa sn sc, e, h1, (by rw [hp]; exact hb2), RepMs.on hoo.1 hoo.2 hS9⟩ | .isFalse hp => ⟨p, s, e, h1, (hsz p hp).trans h2, RepMs.on hoo.1 hoo.2 h3⟩), trivial⟩) e99
 case fin =>
  intro a w' hoff hg hf hn
  obtain ⟨_, e0, rfl⟩ := hf 0 _ 16 rfl rfl
  obtain ⟨_, e1, rfl⟩ := hf 1 _ 17 rfl rfl
  obtain ⟨_, e2, rfl⟩ := hf 2 _ 18 rfl rfl
  obtain ⟨_, e3, rfl⟩ := hf 3 _ 19 rfl rfl
  obtain ⟨_, e4, rfl⟩ := hf 4 _ 20 rfl rfl
  obtain ⟨_, e5, rfl⟩ := hf 5 _ 21 rfl rfl
  obtain ⟨v6, e6, (g6 : ∃ a n c, v6 = .slice a n c ∧ RepMs (SX k4 w3.heap.size 43 w') w' (turnL r.args) v6)⟩ := hf 6 _ 22 rfl rfl
  obtain ⟨_, e7, rfl⟩ := hf 7 _ 23 rfl rfl
  obtain ⟨_, e8, rfl⟩ := hf 8 _ 24 rfl rfl
  obtain ⟨_, e9, rfl⟩ := hf 9 _ 25 rfl rfl
  obtain ⟨_, e10, rfl⟩ := hf 10 _ 26 rfl rfl
  obtain ⟨v11, e11, (g11 : ∃ s, v11 = .agg #[.string r.label, .string r.head, s, .string r.agg, .int .i64 r.at', .slice none 0 0] ∧ RepMs (SX k4 w3.heap.size 43 w') w' (turnL r.args) s)⟩ := hf 11 _ 27 rfl rfl
  obtain ⟨v12, e12, (g12 : ∃ q, v12 = .pointer (some ⟨q, 0, none⟩) ∧ w3.heap.size ≤ q ∧ ∃ c0 c1 c2 c3 c4 c5, BoxRu w' q c0 c1 c2 c3 c4 c5)⟩ := hf 12 _ 5 rfl rfl
  obtain ⟨v13, (g13 : ∃ q s, v13 = .pointer (some ⟨q, 0, none⟩) ∧ w3.heap.size ≤ q ∧ BoxRu w' q (.string r.label) (.string r.head) s (.string r.agg) (.int .i64 r.at') (.slice none 0 0) ∧ RepMs (SX k4 w3.heap.size 43 w') w' (turnL r.args) s), T13⟩ := hn 13 _ rfl rfl
  replace T13 := T13 5 rfl
  obtain ⟨ra6, rn6, rc6, rfl, -⟩ := g6
  obtain ⟨s11, rfl, -⟩ := g11
  obtain ⟨kq, sl, rfl, hkq, hbx, hrow⟩ := g13
  obtain rfl : v12 = .pointer (some ⟨kq, 0, none⟩) := Option.some.inj (e12.symm.trans T13)
  clear g12
  rw [hoff.sets [(16, .pointer (some ⟨k4, 0, none⟩)), (17, .string r.label), (18, .pointer (some ⟨k4, 1, none⟩)), (19, .string r.head), (20, .pointer (some ⟨k4, 2, none⟩)), (21, .slice xa r.args.length xc), (22, .slice ra6 rn6 rc6), (23, .pointer (some ⟨k4, 3, none⟩)), (24, .string r.agg), (25, .pointer (some ⟨k4, 4, none⟩)), (26, .int .i64 r.at'), (27, .agg #[.string r.label, .string r.head, s11, .string r.agg, .int .i64 r.at', .slice none 0 0]), (5, .pointer (some ⟨kq, 0, none⟩))] (by kernel_rfl) (by intro p hp; simp only [List.mem_cons, List.not_mem_nil, or_false] at hp; rcases hp with rfl | rfl | rfl | rfl | rfl | rfl | rfl | rfl | rfl | rfl | rfl | rfl | rfl <;> assumption)]
  clear hoff hf hn e0 e1 e2 e3 e4 e5 e6 e7 e8 e9 e10 e11 e12 T13
  simp only [List.foldl_cons, List.foldl_nil, List.setIfInBounds_toArray, List.set_cons_zero, List.set_cons_succ]
  have hxf := SlG.form hrow
  obtain ⟨ta, tc, rfl⟩ := hxf
  have hqs := hbx.lt
  have HAX : Hid (RepMs (fun b => b ≠ kq ∧ b < w'.heap.size) w' (turnL r.args) (.slice ta (turnL r.args).length tc)) := RepMs.on (fun b h => ⟨fun e => by
   rcases h with h | ⟨-, -, h⟩
   ·have := KK.out.2; omega
   ·rw [e] at h; exact h _ _ hbx, SX.lt (Nat.le_of_lt (Nat.lt_of_lt_of_le KK.out.2 hg.size)) h⟩) (fun _ _ => rfl) hrow
  have BQ := Lib.hid (Below.step BW.out hg)
  have X4q := Lib.hid (X4.out.on hg)
  have GRq : Hid (RepRu (fun k => k < k4) w' r (.string r.label) (.string r.head) (.slice xa r.args.length xc) (.string r.agg) (.int .i64 r.at') (.slice ya r.body.length yc)) := RepRu.on (fun _ h => h) (fun k hk => hg.block k (Nat.lt_trans hk KK.out.2)) GR.out
  have KQ : Hid (W.heap.size ≤ k4 ∧ k4 < kq ∧ kq < w'.heap.size) := ⟨KK.out.1, Nat.lt_of_lt_of_le KK.out.2 hkq, hqs⟩
  have HXQ := Lib.hid hbx
  clear hqs hrow hbx hkq hg X4 GR KK BW
  generalize w' = wq at *
  go_wp2_with fail
  go_loopw [6] (fun iv wr => ∃ k : Nat, k ≤ r.body.length ∧ iv = .int .i64 (k : Int) ∧ ∃ bv, BoxRu wr kq (.string r.label) (.string r.head) (.slice ta (turnL r.args).length tc) (.string r.agg) (.int .i64 r.at') bv ∧ MineN kdLi kq wr wq.heap.size ((r.body.take k).map turnLi) bv ∧ But kq wq.heap.size wq wr) (fun iv _ => r.body.length - (intOf iv).toNat)
  case atStart => exact ⟨0, Nat.zero_le _, rfl, _, HXQ.out, OwnK.nil _ _ _, But.refl _ _ _⟩
  case round =>
   obtain ⟨k, hk, rfl, bv, hbq, hmn, hbt⟩ := hrel
   obtain ⟨Mb, hMb⟩ : ∃ M, (r.body.take k).map turnLi = M := ⟨_, rfl⟩
   rw [hMb] at hmn
   have HMb := Lib.hid hMb
   have HLL : Hid (Mb.length ≤ 1000) := by show _ ≤ _; rw [← hMb, List.length_map, List.length_take]; have := HRP.out.2.1; omega
   obtain ⟨ba, bc, rfl⟩ := OwnK.form hmn
   have HBQ := Lib.hid hbq; have HMN : Hid (MineN kdLi kq wr wq.heap.size Mb (.slice ba Mb.length bc)) := hmn; have HBT := Lib.hid hbt
   clear hbq hmn hbt hMb
   have hx4 : BoxRu wr k4 (.string r.label) (.string r.head) (.slice xa r.args.length xc) (.string r.agg) (.int .i64 r.at') (.slice ya r.body.length yc) := (HBT.out.block k4 (by have := KQ.out; omega) (by have := KQ.out; omega)).trans X4q.out
   obtain ⟨o0, o1, o2, o3, o4, o5⟩ := hx4.cells
   have HX4 := Lib.hid hx4
   clear hx4
   by_cases hlt : k < r.body.length
   ·have i1 : decide ((k : Int) < (r.body.length : Int)) = true := decide_eq_true (by omega)
    have i2 : decide (k < r.body.length) = true := decide_eq_true hlt
    have HTK : Hid ((r.body.take (k + 1)).map turnLi = (r.body.take k).map turnLi ++ [turnLi r.body[k]]) := by show _ = _; rw [List.take_succ_eq_append_getElem hlt, List.map_append]; rfl
    have HZL := Lib.hid (HRP.out.2.2 r.body[k] (List.getElem_mem hlt))
    have HZR := Lib.hid ((ru_args HRB.out).2 r.body[k] (List.getElem_mem hlt))
    obtain ⟨-, -, lb, lo, xga, xgc, hga, hlb, g0, g1, g2, g⟩ := RepLis.at GRq.out.2.2.2.2.2.2.2.2.2 k hlt
    have hblk : ∀ b, b < k4 → wr.heap[b]? = wq.heap[b]? := fun b hb => HBT.out.block b (by have := KQ.out; omega) (by have := KQ.out; omega)
    replace g0 := (World.cell?_of_block (a := ⟨lb, lo + k * 3, none⟩) (hblk lb hlb)).trans g0
    replace g1 := (World.cell?_of_block (a := ⟨lb, lo + k * 3 + 1, none⟩) (hblk lb hlb)).trans g1
    replace g2 := (World.cell?_of_block (a := ⟨lb, lo + k * 3 + 2, none⟩) (hblk lb hlb)).trans g2
    have HGA : Hid (RepMs (fun b => b < k4) wr r.body[k].args (.slice xga r.body[k].args.length xgc)) := RepMs.on (fun _ h => h) hblk g.2.2.2.2
    have HZI : Hid (I64 r.body[k].kind ∧ r.body[k].name.size ≤ maxLen) := ⟨g.2.2.1, g.2.2.2.1⟩
    have hk1 : (0 : Int) ≤ (k : Int) := Int.natCast_nonneg k
    have hk2 : (k : Int) < (r.body.length : Int) := by omega
    have HKL := Lib.hid hlt
    subst hga
    generalize r.body[k] = z at *
    clear hk hlt hblk hlb g
    have HZ8 := Lib.hid (liB_args HZL.out)
    have HZ4 : Hid (z.kind = 4 → z.name.size ≤ 16) := by
     show _ → _
     intro hk
     have hv := liB_name HZL.out hk
     rw [varB, decide_eq_true_eq] at hv
     exact hv.2.1
    have HZN : Hid (z.kind = 4 → (nPre z.name).size ≤ maxLen) := by
     show _ → _
     intro hk
     have := HZ4.out hk
     rw [nPre, ByteArray.size_append]
     show 1 + _ ≤ _
     unfold maxLen; omega
    by_cases h4 : z.kind = 4
    ·have i3 : decide (z.kind = 4) = true := decide_eq_true h4
     have hadd := strAdd ⟨#[78]⟩ z.name (by have := HZ4.out h4; show 1 + _ ≤ _; omega)
     rw [show (⟨#[78]⟩ ++ z.name : ByteArray) = nPre z.name from rfl] at hadd
     have mk := boxLi_new wr (.int .i64 4) (.string z.name) (.slice xga z.args.length xgc)
     have da := below_alloc wr (.cells #[.int .i64 4, .string z.name, .slice xga z.args.length xgc] 46)
     have sa := World.size_alloc wr (.cells #[.int .i64 4, .string z.name, .slice xga z.args.length xgc] 46)
     go_wp2_with fail
     generalize wr.alloc (.cells #[.int .i64 4, .string z.name, .slice xga z.args.length xgc] 46) = w1 at *
     have hs0 := HBT.out.size; have hs1 := da.size
     have KQo := KQ.out
     refine (turned7_any 8 z.args HZ8.out HZR.out (fun b => b < k4) w1 _ (fun b hb => by have := KQ.out; omega) (RepMs.on (fun _ h => h) (fun b (hb : b < k4) => da.block b (by omega)) HGA.out)).mono ?_
     rintro e w2 ⟨u, rfl, hrep, hb⟩
     obtain ⟨ua, uc, rfl⟩ := SlG.form hrep
     have hbox := mk.on hb
     have hb2 : Below wr.heap.size wr w2 := Below.step da hb
     obtain ⟨kb, hkb⟩ : ∃ k, wr.heap.size = k := ⟨_, rfl⟩
     rw [hkb] at hbox ⊢
     have hb3 : Below wr.heap.size wr ((w2.setCell ⟨kb, 2, none⟩ (.slice ua (turnL z.args).length uc)).setCell ⟨kb, 1, none⟩ (.string (nPre z.name))) := ((hb2.setCell (p := ⟨kb, 2, none⟩) (show wr.heap.size ≤ kb by omega) _).setCell (p := ⟨kb, 1, none⟩) (show wr.heap.size ≤ kb by omega) _)
     have hbox2 : BoxLi (w2.setCell ⟨kb, 2, none⟩ (.slice ua (turnL z.args).length uc)) kb (.int .i64 4) (.string z.name) (.slice ua (turnL z.args).length uc) := heap_setCell_same _ _ _ _ _ _ hbox
     have hbox3 : BoxLi ((w2.setCell ⟨kb, 2, none⟩ (.slice ua (turnL z.args).length uc)).setCell ⟨kb, 1, none⟩ (.string (nPre z.name))) kb (.int .i64 4) (.string (nPre z.name)) (.slice ua (turnL z.args).length uc) := heap_setCell_same _ _ _ _ _ _ hbox2
     have hs3 : ((w2.setCell ⟨kb, 2, none⟩ (.slice ua (turnL z.args).length uc)).setCell ⟨kb, 1, none⟩ (.string (nPre z.name))).heap.size = w2.heap.size := by simp [World.setCell]
     have hne : ∀ b, b ≠ kb → ((w2.setCell ⟨kb, 2, none⟩ (.slice ua (turnL z.args).length uc)).setCell ⟨kb, 1, none⟩ (.string (nPre z.name))).heap[b]? = w2.heap[b]? := fun b hb => by rw [Below.heap_setCell _ _ _ _ hb, Below.heap_setCell _ _ _ _ hb]
     obtain ⟨w3', hw3⟩ : ∃ w, ((w2.setCell ⟨kb, 2, none⟩ (.slice ua (turnL z.args).length uc)).setCell ⟨kb, 1, none⟩ (.string (nPre z.name))) = w := ⟨_, rfl⟩
     rw [hw3] at hb3 hbox3 hs3 hne
     have dr := below_alloc w3' (.cells #[.int .i64 4, .string (nPre z.name), .slice ua (turnL z.args).length uc] 46)
     have sr := World.size_alloc w3' (.cells #[.int .i64 4, .string (nPre z.name), .slice ua (turnL z.args).length uc] 46)
     have nr := alloc_new' w3' (.cells #[.int .i64 4, .string (nPre z.name), .slice ua (turnL z.args).length uc] 46)
     have hs2 := hb.size; have hs5 := hb3.size
     have hbt4 : But kq wr.heap.size wr (w3'.alloc (.cells #[.int .i64 4, .string (nPre z.name), .slice ua (turnL z.args).length uc] 46)) := But.step (But.refl kq wr.heap.size wr) (Nat.le_refl _) (Below.step hb3 dr)
     have hm3 := HMN.out.on hbt4 KQ.out.2.2
     have hlies := OwnK.lies HMN.out
     have hR : kdLi.R (fun b => b ≠ kq ∧ b < (w3'.alloc (.cells #[.int .i64 4, .string (nPre z.name), .slice ua (turnL z.args).length uc] 46)).heap.size ∧ (Value.slice ba Mb.length bc).ownBlock ≠ some b) (w3'.alloc (.cells #[.int .i64 4, .string (nPre z.name), .slice ua (turnL z.args).length uc] 46)) (turnLi z) (at3v (.int .i64 4) (.string (nPre z.name)) (.slice ua (turnL z.args).length uc)) := by
      refine ⟨by show _ = Value.int .i64 z.kind; rw [h4]; rfl, by show _ = Value.string (if z.kind = 4 then nPre z.name else z.name); rw [if_pos h4]; rfl, HZI.out.1, by show (if z.kind = 4 then nPre z.name else z.name).size ≤ maxLen; rw [if_pos h4]; exact HZN.out h4, ?_⟩
      refine RepMs.on (fun b hb' => ?_) (fun b hb' => ?_) hrep
      ·rcases hb' with hb' | hb'
       ·exact ⟨by omega, by omega, fun e => by have := hlies b e; omega⟩
       ·exact ⟨by omega, by omega, fun e => by have := hlies b e; omega⟩
      ·have hbk : b ≠ kb ∧ b < w2.heap.size := by
        rcases hb' with hb' | hb'
        ·constructor <;> omega
        ·constructor <;> omega
       exact (dr.block b (by omega)).trans (hne b hbk.1)
     obtain ⟨a6, cap6, w6, hrun, hm6, hg6⟩ := MineN.append hm3 (by omega) HLL.out nr (fun j hj => match j, hj with | 0, _ => rfl | 1, _ => rfl | 2, _ => rfl) hR 41
     have hown : ∀ k, k < wq.heap.size → some k ≠ (Value.slice ba Mb.length bc).ownBlock := fun k hk e => by have := hlies k e.symm; omega
     have hbq3 := (hbt4.below (B0 := kq) (by omega) (Nat.le_refl _))
     have hbox6 : BoxRu w6 kq (.string r.label) (.string r.head) (.slice ta (turnL r.args).length tc) (.string r.agg) (.int .i64 r.at') (.slice ba Mb.length bc) := (hg6.block kq (by omega) (hown kq (by omega))).trans ((Below.step hb3 dr).block kq (by omega) |>.trans HBQ.out)
     have hbq : BoxRu w3' kq (.string r.label) (.string r.head) (.slice ta (turnL r.args).length tc) (.string r.agg) (.int .i64 r.at') (.slice ba Mb.length bc) := (hb3.block kq (by omega)).trans HBQ.out
     have hbt6 : But kq wq.heap.size wq w6 := by
      have h1 := But.trans HBT.out hs0 hbt4
      exact ⟨hg6.os.trans h1.os, hg6.tape.trans h1.tape, hg6.output.trans h1.output, Nat.le_trans h1.size hg6.size, fun k hk hne' => (hg6.block k (Nat.lt_of_lt_of_le hk h1.size) (hown k hk)).trans (h1.block k hk hne')⟩
     have HRUN := Lib.hid hrun
     have hsz6 := hg6.size
     have HREL : Hid (∃ bv, BoxRu (w6.setCell ⟨kq, 5, none⟩ (.slice a6 (Mb.length + 1) cap6)) kq (.string r.label) (.string r.head) (.slice ta (turnL r.args).length tc) (.string r.agg) (.int .i64 r.at') bv ∧ MineN kdLi kq (w6.setCell ⟨kq, 5, none⟩ (.slice a6 (Mb.length + 1) cap6)) wq.heap.size (Mb ++ [turnLi z]) bv ∧ But kq wq.heap.size wq (w6.setCell ⟨kq, 5, none⟩ (.slice a6 (Mb.length + 1) cap6))) :=
      ⟨_, heap_setCell_same _ _ _ _ _ _ hbox6, hm6.on (But.set (But.refl kq _ w6) 5 _) KQ.out.2.2, But.set hbt6 5 _⟩
     obtain ⟨x0, x1, x2⟩ := hbox.cells
     have z2 := frozen_of_row w2 kb 2 _ _ hbox
     obtain ⟨n0, n1, n2⟩ := hbox2.cells
     have z1 := frozen_of_row _ kb 1 _ _ hbox2
     obtain ⟨y0, y1, y2⟩ := hbox3.cells
     obtain ⟨q0, q1, q2, q3, q4, q5⟩ := hbq.cells
     obtain ⟨p0, p1, p2, p3, p4, p5⟩ := hbox6.cells
     have zz5 := frozen_of_row w6 kq 5 _ _ hbox6
     clear hrep hb hb2 hb3 hm3 hs0 hs1 hs2 hs3 hs5 hne dr sr nr hR hrun hm6 hg6 mk da sa hbox hbox3 hbox2 hbt4 hlies hown hbq3 hbox6 hbq hbt6 hsz6 KQo hkb
     go_wp2_with (at_builtin; refine wpList_append_by rfl _ _ _ rfl rfl rfl HRUN.out ?_)
     go_roundw
     case rel =>
      obtain ⟨bv, h1, h2, h3⟩ := HREL.out
      exact ⟨k + 1, HKL.out, (by have := HKL.out; have := HRP.out.2.1; rw [show wrap64 ((k : Int) + 1) = ((k + 1 : Nat) : Int) by unfold wrap64; omega]), bv, h1, by rw [HTK.out, HMb.out]; exact h2, h3⟩
     case measure => exact measure_up HKL.out (by have := HRP.out.2.1; omega)
    ·have i3 : decide (z.kind = 4) = false := decide_eq_false h4
     have mk := boxLi_new wr (.int .i64 z.kind) (.string z.name) (.slice xga z.args.length xgc)
     have da := below_alloc wr (.cells #[.int .i64 z.kind, .string z.name, .slice xga z.args.length xgc] 46)
     have sa := World.size_alloc wr (.cells #[.int .i64 z.kind, .string z.name, .slice xga z.args.length xgc] 46)
     go_wp2_with fail
     generalize wr.alloc (.cells #[.int .i64 z.kind, .string z.name, .slice xga z.args.length xgc] 46) = w1 at *
     have hs0 := HBT.out.size; have hs1 := da.size
     have KQo := KQ.out
     refine (turned7_any 8 z.args HZ8.out HZR.out (fun b => b < k4) w1 _ (fun b hb => by have := KQ.out; omega) (RepMs.on (fun _ h => h) (fun b (hb : b < k4) => da.block b (by omega)) HGA.out)).mono ?_
     rintro e w2 ⟨u, rfl, hrep, hb⟩
     obtain ⟨ua, uc, rfl⟩ := SlG.form hrep
     have hbox := mk.on hb
     have hb2 : Below wr.heap.size wr w2 := Below.step da hb
     obtain ⟨kb, hkb⟩ : ∃ k, wr.heap.size = k := ⟨_, rfl⟩
     rw [hkb] at hbox ⊢
     have hb3 : Below wr.heap.size wr (w2.setCell ⟨kb, 2, none⟩ (.slice ua (turnL z.args).length uc)) := (hb2.setCell (p := ⟨kb, 2, none⟩) (show wr.heap.size ≤ kb by omega) _)
     have hbox3 : BoxLi (w2.setCell ⟨kb, 2, none⟩ (.slice ua (turnL z.args).length uc)) kb (.int .i64 z.kind) (.string z.name) (.slice ua (turnL z.args).length uc) := heap_setCell_same _ _ _ _ _ _ hbox
     have hs3 : (w2.setCell ⟨kb, 2, none⟩ (.slice ua (turnL z.args).length uc)).heap.size = w2.heap.size := by simp [World.setCell]
     have hne : ∀ b, b ≠ kb → (w2.setCell ⟨kb, 2, none⟩ (.slice ua (turnL z.args).length uc)).heap[b]? = w2.heap[b]? := fun b hb => Below.heap_setCell _ _ _ _ hb
     obtain ⟨w3', hw3⟩ : ∃ w, (w2.setCell ⟨kb, 2, none⟩ (.slice ua (turnL z.args).length uc)) = w := ⟨_, rfl⟩
     rw [hw3] at hb3 hbox3 hs3 hne
     have dr := below_alloc w3' (.cells #[.int .i64 z.kind, .string z.name, .slice ua (turnL z.args).length uc] 46)
     have sr := World.size_alloc w3' (.cells #[.int .i64 z.kind, .string z.name, .slice ua (turnL z.args).length uc] 46)
     have nr := alloc_new' w3' (.cells #[.int .i64 z.kind, .string z.name, .slice ua (turnL z.args).length uc] 46)
     have hs2 := hb.size; have hs5 := hb3.size
     have hbt4 : But kq wr.heap.size wr (w3'.alloc (.cells #[.int .i64 z.kind, .string z.name, .slice ua (turnL z.args).length uc] 46)) := But.step (But.refl kq wr.heap.size wr) (Nat.le_refl _) (Below.step hb3 dr)
     have hm3 := HMN.out.on hbt4 KQ.out.2.2
     have hlies := OwnK.lies HMN.out
     have hR : kdLi.R (fun b => b ≠ kq ∧ b < (w3'.alloc (.cells #[.int .i64 z.kind, .string z.name, .slice ua (turnL z.args).length uc] 46)).heap.size ∧ (Value.slice ba Mb.length bc).ownBlock ≠ some b) (w3'.alloc (.cells #[.int .i64 z.kind, .string z.name, .slice ua (turnL z.args).length uc] 46)) (turnLi z) (at3v (.int .i64 z.kind) (.string z.name) (.slice ua (turnL z.args).length uc)) := by
      refine ⟨rfl, by show _ = Value.string (if z.kind = 4 then nPre z.name else z.name); rw [if_neg h4]; rfl, HZI.out.1, by show (if z.kind = 4 then nPre z.name else z.name).size ≤ maxLen; rw [if_neg h4]; exact HZI.out.2, ?_⟩
      refine RepMs.on (fun b hb' => ?_) (fun b hb' => ?_) hrep
      ·rcases hb' with hb' | hb'
       ·exact ⟨by omega, by omega, fun e => by have := hlies b e; omega⟩
       ·exact ⟨by omega, by omega, fun e => by have := hlies b e; omega⟩
      ·have hbk : b ≠ kb ∧ b < w2.heap.size := by
        rcases hb' with hb' | hb'
        ·constructor <;> omega
        ·constructor <;> omega
       exact (dr.block b (by omega)).trans (hne b hbk.1)
     obtain ⟨a6, cap6, w6, hrun, hm6, hg6⟩ := MineN.append hm3 (by omega) HLL.out nr (fun j hj => match j, hj with | 0, _ => rfl | 1, _ => rfl | 2, _ => rfl) hR 41
     have hown : ∀ k, k < wq.heap.size → some k ≠ (Value.slice ba Mb.length bc).ownBlock := fun k hk e => by have := hlies k e.symm; omega
     have hbq3 := (hbt4.below (B0 := kq) (by omega) (Nat.le_refl _))
     have hbox6 : BoxRu w6 kq (.string r.label) (.string r.head) (.slice ta (turnL r.args).length tc) (.string r.agg) (.int .i64 r.at') (.slice ba Mb.length bc) := (hg6.block kq (by omega) (hown kq (by omega))).trans ((Below.step hb3 dr).block kq (by omega) |>.trans HBQ.out)
     have hbq : BoxRu w3' kq (.string r.label) (.string r.head) (.slice ta (turnL r.args).length tc) (.string r.agg) (.int .i64 r.at') (.slice ba Mb.length bc) := (hb3.block kq (by omega)).trans HBQ.out
     have hbt6 : But kq wq.heap.size wq w6 := by
      have h1 := But.trans HBT.out hs0 hbt4
      exact ⟨hg6.os.trans h1.os, hg6.tape.trans h1.tape, hg6.output.trans h1.output, Nat.le_trans h1.size hg6.size, fun k hk hne' => (hg6.block k (Nat.lt_of_lt_of_le hk h1.size) (hown k hk)).trans (h1.block k hk hne')⟩
     have HRUN := Lib.hid hrun
     have hsz6 := hg6.size
     have HREL : Hid (∃ bv, BoxRu (w6.setCell ⟨kq, 5, none⟩ (.slice a6 (Mb.length + 1) cap6)) kq (.string r.label) (.string r.head) (.slice ta (turnL r.args).length tc) (.string r.agg) (.int .i64 r.at') bv ∧ MineN kdLi kq (w6.setCell ⟨kq, 5, none⟩ (.slice a6 (Mb.length + 1) cap6)) wq.heap.size (Mb ++ [turnLi z]) bv ∧ But kq wq.heap.size wq (w6.setCell ⟨kq, 5, none⟩ (.slice a6 (Mb.length + 1) cap6))) :=
      ⟨_, heap_setCell_same _ _ _ _ _ _ hbox6, hm6.on (But.set (But.refl kq _ w6) 5 _) KQ.out.2.2, But.set hbt6 5 _⟩
     obtain ⟨x0, x1, x2⟩ := hbox.cells
     have z2 := frozen_of_row w2 kb 2 _ _ hbox
     obtain ⟨y0, y1, y2⟩ := hbox3.cells
     obtain ⟨q0, q1, q2, q3, q4, q5⟩ := hbq.cells
     obtain ⟨p0, p1, p2, p3, p4, p5⟩ := hbox6.cells
     have zz5 := frozen_of_row w6 kq 5 _ _ hbox6
     clear hrep hb hb2 hb3 hm3 hs0 hs1 hs2 hs3 hs5 hne dr sr nr hR hrun hm6 hg6 mk da sa hbox hbox3 hbt4 hlies hown hbq3 hbox6 hbq hbt6 hsz6 KQo hkb
     go_wp2_with (at_builtin; refine wpList_append_by rfl _ _ _ rfl rfl rfl HRUN.out ?_)
     go_roundw
     case rel =>
      obtain ⟨bv, h1, h2, h3⟩ := HREL.out
      exact ⟨k + 1, HKL.out, (by have := HKL.out; have := HRP.out.2.1; rw [show wrap64 ((k : Int) + 1) = ((k + 1 : Nat) : Int) by unfold wrap64; omega]), bv, h1, by rw [HTK.out, HMb.out]; exact h2, h3⟩
     case measure => exact measure_up HKL.out (by have := HRP.out.2.1; omega)
   ·have i1 : decide ((k : Int) < (r.body.length : Int)) = false := decide_eq_false (by omega)
    have i2 : decide (k < r.body.length) = false := decide_eq_false hlt
    have hkk : r.body.take k = r.body := List.take_of_length_le (by omega)
    rw [hkk] at HMb
    clear hkk
    have hblk : ∀ b, b < k4 → wr.heap[b]? = wq.heap[b]? := fun b hb => HBT.out.block b (by have := KQ.out; omega) (by have := KQ.out; omega)
    have GRr : Hid (RepRu (fun k => k < k4) wr r (.string r.label) (.string r.head) (.slice xa r.args.length xc) (.string r.agg) (.int .i64 r.at') (.slice ya r.body.length yc)) := RepRu.on (fun _ h => h) hblk GRq.out
    have hs0 := HBT.out.size
    have g := GRr.out
    have HRX : Hid (RepRu (fun b => b < wr.heap.size) wr (turnRu r) (.string r.label) (.string r.head) (.slice ta (turnL r.args).length tc) (.string r.agg) (.int .i64 r.at') (.slice ba Mb.length bc)) := ⟨rfl, rfl, rfl, rfl, g.2.2.2.2.1, g.2.2.2.2.2.1, g.2.2.2.2.2.2.1, g.2.2.2.2.2.2.2.1, RepMs.on (fun b h => Nat.lt_of_lt_of_le h.2 hs0) (fun b h => HBT.out.block b h.2 h.1) HAX.out, by
     show RepLis _ _ (r.body.map turnLi) _
     rw [HMb.out]
     exact OwnK.slg' HMN.out (fun b hb => hb.2.1) (fun b h1 h2 => h2) (by have := HLL.out; omega)⟩
    have BWr : Hid (Below W.heap.size W wr) := Below.trans BQ.out (HBT.out.below (B0 := W.heap.size) (by have := KQ.out; omega) (by have := KQ.out; omega))
    have KR : Hid (k4 < wr.heap.size) := by have := KQ.out; show _ < _; omega
    clear hblk hs0 g HBT HMN HMb HAX GRq X4q HXQ
    go_wp2_with fail
    refine (locPlace_any r (fun b => b < k4) wr _ _ _ _ _ _ (fun b hb => Nat.lt_trans hb KR.out) (Nat.lt_of_lt_of_le HG.out BWr.out.size) (TabOk.below HT.out HG.out BWr.out) GRr.out).mono ?_
    rintro e w5 ⟨rfl, hb⟩
    replace HRX : Hid (RepRu (fun b => b < w5.heap.size) w5 (turnRu r) (.string r.label) (.string r.head) (.slice ta (turnL r.args).length tc) (.string r.agg) (.int .i64 r.at') (.slice ba Mb.length bc)) := RepRu.on (fun b h => Nat.lt_of_lt_of_le h hb.size) (fun b h => hb.block b h) HRX.out
    replace HBQ := Lib.hid (HBQ.out.on hb)
    replace BWr := Lib.hid (Below.step BWr.out hb)
    obtain ⟨⟨p, is⟩, hp⟩ : ∃ q, placeZ r = q := ⟨_, rfl⟩
    rw [hp, plRet]
    have HP := Lib.hid hp
    clear hp hb KR GRr HX4 o0 o1 o2 o3 o4 o5
    go_upto_region 13 with fail
    have mb := alloc_new' w5 (.cells #[.string p.from', .string p.to', .string p.head] 37)
    have da := below_alloc w5 (.cells #[.string p.from', .string p.to', .string p.head] 37)
    generalize w5.alloc (.cells #[.string p.from', .string p.to', .string p.head] 37) = w6 at *
    replace HRX : Hid (RepRu (fun b => b < w6.heap.size) w6 (turnRu r) (.string r.label) (.string r.head) (.slice ta (turnL r.args).length tc) (.string r.agg) (.int .i64 r.at') (.slice ba Mb.length bc)) := RepRu.on (fun b h => Nat.lt_of_lt_of_le h da.size) (fun b h => da.block b h) HRX.out
    replace HBQ := Lib.hid (HBQ.out.on da)
    replace BWr := Lib.hid (Below.step BWr.out da)
    obtain ⟨k8, hk8⟩ : ∃ k, w5.heap.size = k := ⟨_, rfl⟩
    rw [hk8] at mb ⊢
    have X8 : Hid (BoxPl w6 k8 (.string p.from') (.string p.to') (.string p.head)) := mb
    clear mb da hk8
    obtain ⟨o0, o1, o2, o3, o4, o5⟩ := HBQ.out.cells
    go_wp2_with fail
    refine (locPlace_any (turnRu r) (fun b => b < w6.heap.size) w6 _ _ _ _ _ _ (fun _ h => h) (Nat.lt_of_lt_of_le HG.out BWr.out.size) (TabOk.below HT.out HG.out BWr.out) HRX.out).mono ?_
    rintro e w7 ⟨rfl, hb⟩
    replace X8 := Lib.hid (X8.out.on hb)
    replace BWr := Lib.hid (Below.step BWr.out hb)
    have hlt := loc_turn HRB.out HFW.out
    rw [HP.out] at hlt
    have HLT := Lib.hid hlt
    clear hlt hb HRX HBQ o0 o1 o2 o3 o4 o5
    cases is with
    | false =>
     rw [placeZ_no (show (placeZ (turnRu r)).2 = false from HLT.out.1), plRet]
     go_upto_region 14 with fail
     have mb := alloc_new' w7 (.cells #[.string zPl.from', .string zPl.to', .string zPl.head] 37)
     have da := below_alloc w7 (.cells #[.string zPl.from', .string zPl.to', .string zPl.head] 37)
     generalize w7.alloc (.cells #[.string zPl.from', .string zPl.to', .string zPl.head] 37) = w8 at *
     replace X8 := Lib.hid (X8.out.on da)
     replace BWr := Lib.hid (Below.step BWr.out da)
     obtain ⟨k10, hk10⟩ : ∃ k, w7.heap.size = k := ⟨_, rfl⟩
     rw [hk10] at mb ⊢
     have X10 : Hid (BoxPl w8 k10 (.string zPl.from') (.string zPl.to') (.string zPl.head)) := mb
     clear mb da hk10
     obtain ⟨p0, p1, p2⟩ := X8.out.cells
     obtain ⟨q0, q1, q2⟩ := X10.out.cells
     go_wp2_with fail
     go_ret
     exact ⟨rfl, BWr.out⟩
    | true =>
     have HOK : Hid ((placeZ r).2 = true) := by show _ = _; rw [HP.out]
     rw [show placeZ (turnRu r) = (turnPl p, true) from Prod.ext (HLT.out.2 rfl) HLT.out.1, plRet]
     clear HLT
     have hsz := loc_sizes HOK.out HP.out
     have ha1 := strAdd ⟨#[78]⟩ p.from' (by have := hsz.1; show 1 + _ ≤ _; omega)
     rw [show (⟨#[78]⟩ ++ p.from' : ByteArray) = nPre p.from' from rfl] at ha1
     have ha2 := strAdd ⟨#[78]⟩ p.to' (by have := hsz.2.1; show 1 + _ ≤ _; omega)
     rw [show (⟨#[78]⟩ ++ p.to' : ByteArray) = nPre p.to' from rfl] at ha2
     have ha3 := strAdd ⟨#[78]⟩ p.head (by have := hsz.2.2; show 1 + _ ≤ _; omega)
     rw [show (⟨#[78]⟩ ++ p.head : ByteArray) = nPre p.head from rfl] at ha3
     clear hsz
     cases hto : p.to'.toList.isEmpty with
     | true =>
      have ht : (p.to'.toList == []) = true := by rw [← hto]; cases p.to'.toList <;> rfl
      rw [show turnPl p = ⟨nPre p.from', ⟨#[]⟩, nPre p.head⟩ by rw [turnPl, if_pos hto]]
      go_upto_region 14 with fail
      have mb := alloc_new' w7 (.cells #[.string (nPre p.from'), .string ⟨#[]⟩, .string (nPre p.head)] 37)
      have da := below_alloc w7 (.cells #[.string (nPre p.from'), .string ⟨#[]⟩, .string (nPre p.head)] 37)
      generalize w7.alloc (.cells #[.string (nPre p.from'), .string ⟨#[]⟩, .string (nPre p.head)] 37) = w8 at *
      replace X8 := Lib.hid (X8.out.on da)
      replace BWr := Lib.hid (Below.step BWr.out da)
      obtain ⟨k10, hk10⟩ : ∃ k, w7.heap.size = k := ⟨_, rfl⟩
      rw [hk10] at mb ⊢
      have X10 : Hid (BoxPl w8 k10 (.string (nPre p.from')) (.string ⟨#[]⟩) (.string (nPre p.head))) := mb
      clear mb da hk10
      obtain ⟨p0, p1, p2⟩ := X8.out.cells
      obtain ⟨q0, q1, q2⟩ := X10.out.cells
      go_wp2_with fail
      go_ret
      exact ⟨rfl, BWr.out⟩
     | false =>
      have ht : (p.to'.toList == []) = false := by rw [← hto]; cases p.to'.toList <;> rfl
      rw [show turnPl p = ⟨nPre p.from', nPre p.to', nPre p.head⟩ by rw [turnPl, if_neg (by simp [hto])]]
      go_upto_region 14 with fail
      have mb := alloc_new' w7 (.cells #[.string (nPre p.from'), .string (nPre p.to'), .string (nPre p.head)] 37)
      have da := below_alloc w7 (.cells #[.string (nPre p.from'), .string (nPre p.to'), .string (nPre p.head)] 37)
      generalize w7.alloc (.cells #[.string (nPre p.from'), .string (nPre p.to'), .string (nPre p.head)] 37) = w8 at *
      replace X8 := Lib.hid (X8.out.on da)
      replace BWr := Lib.hid (Below.step BWr.out da)
      obtain ⟨k10, hk10⟩ : ∃ k, w7.heap.size = k := ⟨_, rfl⟩
      rw [hk10] at mb ⊢
      have X10 : Hid (BoxPl w8 k10 (.string (nPre p.from')) (.string (nPre p.to')) (.string (nPre p.head))) := mb
      clear mb da hk10
      obtain ⟨p0, p1, p2⟩ := X8.out.cells
      obtain ⟨q0, q1, q2⟩ := X10.out.cells
      go_wp2_with fail
      go_ret
      exact ⟨rfl, BWr.out⟩
end Go.Proofs.YtjohcnhiblfbnaaGreatDoor.locateNames
