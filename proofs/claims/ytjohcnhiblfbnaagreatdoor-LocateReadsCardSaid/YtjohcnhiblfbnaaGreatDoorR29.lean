/-
  SixRight, LocPure, LocReads, LocLinked7
-/
import Derived.Test.YtjohcnhiblfbnaaGreatDoorR27
import Derived.Test.YtjohcnhiblfbnaaGreatDoorR28
import Derived.Test.YtjohcnhiblfbnaaGreatDoorR03
import Derived.Test.YtjohcnhiblfbnaaGreatDoorR22
import Derived.Test.YtjohcnhiblfbnaaGreatDoorR12
import Derived.Test.YtjohcnhiblfbnaaGreatDoorR10
import Derived.Deep.QuietTactic
import Derived.BigQuiet
namespace Go.Proofs.YtjohcnhiblfbnaaGreatDoor
open Go.RowKit
end Go.Proofs.YtjohcnhiblfbnaaGreatDoor
namespace Go.Proofs.YtjohcnhiblfbnaaGreatDoor
open Go.RowKit
theorem placeZ_ok {r : Ru} (h : (placeZ r).2 = true) : ruB r = true ∧ eqS r.head linkS = false ∧ atVarsL r.body = true ∧ kind0 r.args = 1 ∧ (bodyPlaceZ r).2 = true ∧ aggFits r (bodyPlaceZ r).1 = true ∧ placeZ r = ((bodyPlaceZ r).1, true) := by
 rw [placeZ] at h ⊢
 split at h
 ·rename_i h1
  split at h
  ·rename_i h2
   rw [if_pos h1, if_pos h2]
   exact ⟨h1.1, h1.2.1, h1.2.2.1, h1.2.2.2, h2.1, h2.2, rfl⟩
  ·cases h
 ·cases h
theorem placeZ_no {r : Ru} (h : (placeZ r).2 = false) : placeZ r = (zPl, false) := by
 rw [placeZ] at h ⊢
 split at h
 ·rename_i h1
  split at h
  ·cases h
  ·rename_i h2; rw [if_pos h1, if_neg h2]
 ·rename_i h1; rw [if_neg h1]
theorem between_cases {f : ByteArray → ByteArray → Option Nat} {a b : ByteArray} (h : (betweenZ f a b).2.2 = true) : ((betweenZ f a b).1 = a ∧ (betweenZ f a b).2.1 = b ∨ (betweenZ f a b).1 = b ∧ (betweenZ f a b).2.1 = a) ∧ (f (betweenZ f a b).1 (betweenZ f a b).2.1).isSome = true := by
 cases h2 : f b a with
 | none => rw [betweenZ_one h2] at h ⊢; exact ⟨.inl ⟨rfl, rfl⟩, h⟩
 | some k =>
  cases h1 : f a b with
  | none => rw [betweenZ_back h2 h1]; exact ⟨.inr ⟨rfl, rfl⟩, by simp [h2]⟩
  | some i =>
   rw [betweenZ_two h2 h1]
   split
   ·exact ⟨.inr ⟨rfl, rfl⟩, by simp [h2]⟩
   ·exact ⟨.inl ⟨rfl, rfl⟩, by simp [h1]⟩
theorem bodyPlace_ok {r : Ru} (h : (bodyPlaceZ r).2 = true) : r.body.any isAt = true ∧ (bodyPlaceZ r).1.head = name0 r.args ∧
    ((placesL [] r.body = [(bodyPlaceZ r).1.from'] ∧ (bodyPlaceZ r).1.to' = ⟨#[]⟩ ∧ ((bodyPlaceZ r).1.head = (bodyPlaceZ r).1.from' ∨ (firstWay (bodyPlaceZ r).1.from' (bodyPlaceZ r).1.head r.body 0).isSome = true)) ∨
     (∃ a b, placesL [] r.body = [a, b] ∧ ((bodyPlaceZ r).1.from' = a ∧ (bodyPlaceZ r).1.to' = b ∨ (bodyPlaceZ r).1.from' = b ∧ (bodyPlaceZ r).1.to' = a) ∧ (firstWay (bodyPlaceZ r).1.from' (bodyPlaceZ r).1.to' r.body 0).isSome = true ∧ ((bodyPlaceZ r).1.head = a ∨ (bodyPlaceZ r).1.head = b))) := by
  rw [bodyPlaceZ] at h ⊢
  cases hany : r.body.any isAt with
  | false => rw [hany, if_neg (by decide)] at h; cases h
  | true =>
    rw [hany, if_pos rfl] at h
    rw [if_pos rfl]
    refine ⟨rfl, ?_⟩
    generalize placesL [] r.body = pl at *
    generalize hf : (fun a b => firstWay a b r.body 0) = f at *
    have hfe : ∀ a b, firstWay a b r.body 0 = f a b := fun a b => by rw [← hf]
    match pl, h with
    | [], h => simp [placeFrom] at h
    | [a], h =>
      rw [placeFrom] at h ⊢
      refine ⟨rfl, .inl ⟨rfl, rfl, ?_⟩⟩
      simp only at h ⊢
      rw [Bool.or_eq_true, eqS_iff] at h
      rw [hfe]
      exact h
    | [a, b], h =>
      rw [placeFrom] at h ⊢
      simp only [Bool.and_eq_true] at h
      obtain ⟨hb1, hb2⟩ := between_cases h.1
      refine ⟨rfl, .inr ⟨a, b, rfl, hb1, by rw [hfe]; exact hb2, ?_⟩⟩
      have := inB_iff.1 h.2
      simpa using this
    | a :: b :: c :: m, h => simp [placeFrom] at h
theorem from_in {r : Ru} (h : (bodyPlaceZ r).2 = true) : (bodyPlaceZ r).1.from' ∈ placesL [] r.body := by
 obtain ⟨-, -, h | ⟨a, b, h1, h2, -⟩⟩ := bodyPlace_ok h
 ·rw [h.1]; exact List.mem_singleton.2 rfl
 ·rw [h1]
  rcases h2 with h2 | h2
  ·rw [h2.1]; simp
  ·rw [h2.1]; simp
theorem placesL_some (p : ByteArray → Prop) : ∀ (l : List Li) (acc : List ByteArray), (∀ s ∈ acc, p s) → (∀ x ∈ l, hasPl x = true → p (name0 x.args)) → ∀ s ∈ placesL acc l, p s
 | [], acc, h, _ => h
 | x :: l, acc, h, hl => by
  rw [placesL]
  split
  ·rename_i hx
   refine placesL_some p l _ (fun s hs => ?_) (fun y hy => hl y (List.mem_cons_of_mem _ hy))
   rcases List.mem_append.1 hs with hs | hs
   ·exact h s hs
   ·rw [List.mem_singleton.1 hs]; exact hl x (List.mem_cons_self ..) hx.1
  ·exact placesL_some p l acc h (fun y hy => hl y (List.mem_cons_of_mem _ hy))
theorem ru_args {r : Ru} (h : ruB r = true) : (∀ t ∈ r.args, rightM 8 t = true) ∧ ∀ x ∈ r.body, ∀ t ∈ x.args, rightM 8 t = true := by
 rw [ruB] at h
 simp only [Bool.and_eq_true] at h
 obtain ⟨-, h1, -, h2⟩ := h
 have ha : ∀ {s : ByteArray} {l : List Tm}, atomB s l = true → ∀ t ∈ l, rightM 8 t = true := fun h => by
  rw [atomB] at h; simp only [Bool.and_eq_true] at h; exact (listB_bounds h.2.1).2.2
 refine ⟨ha h1, fun x hx => ?_⟩
 have hl := (listB_bounds h2).2.2 x hx
 rw [liB] at hl
 split at hl
 ·exact ha hl
 split at hl
 ·exact ha hl
 split at hl
 ·rw [Bool.and_eq_true] at hl; exact (listB_bounds hl.2).2.2
 split at hl
 ·rw [Bool.and_eq_true] at hl; exact (listB_bounds hl.2).2.2
 ·cases hl
theorem var_of {t : Tm} (h : rightM 8 t = true) (hk : t.kind = 1) : varB t.name = true := by
 cases t with
 | mk k s x l =>
  obtain rfl : k = 1 := hk
  rw [rightM, if_pos rfl] at h
  simp only [Bool.and_eq_true] at h
  exact h.1
theorem places_var {r : Ru} (h : ruB r = true) (hv : atVarsL r.body = true) : ∀ s ∈ placesL [] r.body, varB s = true := by
 refine placesL_some _ _ _ (fun _ h => by cases h) (fun x hx hp => ?_)
 have h1 := (ru_facts h).2.1 x hx hp
 rw [(kind0_at h1).2]
 refine var_of ((ru_args h).2 x hx _ (List.getElem_mem h1)) ?_
 rw [atVarsL, List.all_eq_true] at hv
 have := hv x hx
 rw [hp, (kind0_at h1).1] at this
 simpa using this
theorem var_pos {s : ByteArray} (h : varB s = true) : 1 ≤ s.size := by
 rw [varB] at h; exact (of_decide_eq_true h).1
end Go.Proofs.YtjohcnhiblfbnaaGreatDoor
namespace Go.Proofs.YtjohcnhiblfbnaaGreatDoor
open Go.RowKit
theorem placesL_nodup : ∀ (l : List Li) (acc : List ByteArray), acc.Nodup → (placesL acc l).Nodup
 | [], _, h => h
 | x :: l, acc, h => by
  rw [placesL]
  split
  ·rename_i hx
   refine placesL_nodup l _ ?_
   rw [List.nodup_append]
   refine ⟨h, by simp, fun a ha b hb e => ?_⟩
   rw [List.mem_singleton] at hb
   have := hx.2
   rw [← hb, ← e, inB_iff.2 ha] at this
   cases this
  ·exact placesL_nodup l acc h
theorem placesL_keep : ∀ (l : List Li) (acc : List ByteArray) (s : ByteArray), s ∈ acc → s ∈ placesL acc l
 | [], _, _, h => h
 | x :: l, acc, s, h => by
  rw [placesL]
  split
  ·exact placesL_keep l _ s (List.mem_append_left _ h)
  ·exact placesL_keep l acc s h
theorem placesL_mem : ∀ (l : List Li) (acc : List ByteArray) (x : Li), x ∈ l → hasPl x = true → name0 x.args ∈ placesL acc l
 | y :: l, acc, x, hx, hp => by
  rw [placesL]
  rcases List.mem_cons.1 hx with rfl | hx
  ·split
   ·exact placesL_keep l _ _ (List.mem_append_right _ (List.mem_singleton.2 rfl))
   ·rename_i h
    refine placesL_keep l acc _ ?_
    cases hi : inB acc (name0 x.args) with
    | true => exact inB_iff.1 hi
    | false => exact absurd ⟨hp, hi⟩ h
  ·split
   ·exact placesL_mem l _ x hx hp
   ·exact placesL_mem l acc x hx hp
def linkedB (a b : ByteArray) (body : List Li) : Bool := body.any (onWay a b)
theorem firstWay_any (a b : ByteArray) : ∀ (l : List Li) (i : Nat), (firstWay a b l i).isSome = linkedB a b l
 | [], _ => rfl
 | x :: l, i => by
  rw [firstWay, linkedB, List.any_cons]
  cases onWay a b x with
  | true => rfl
  | false => rw [if_neg (by decide), firstWay_any a b l (i + 1)]; rfl
theorem reads {r : Ru} {p : Pl} (ok : (placeZ r).2 = true) (hp : placeZ r = (p, true)) :
  (∀ x ∈ r.body, hasPl x = true → 0 < x.args.length ∧ kind0 x.args = 1 ∧ (name0 x.args = p.from' ∨ (1 ≤ p.to'.size ∧ name0 x.args = p.to'))) ∧
  p.from' ≠ p.to' ∧ name0 r.args = p.head ∧ (1 ≤ p.to'.size → linkedB p.from' p.to' r.body = true ∧ (p.head = p.from' ∨ p.head = p.to')) ∧
  (p.to'.size = 0 → p.head = p.from' ∨ linkedB p.from' p.head r.body = true) ∧ (r.agg.toList.isEmpty = true ∨ (p.to'.size = 0 ∧ p.head = p.from')) ∧ 1 ≤ p.from'.size := by
 obtain ⟨h1, -, h3, h4, h5, h6, h7⟩ := placeZ_ok ok
 obtain rfl : p = (bodyPlaceZ r).1 := congrArg Prod.fst (hp.symm.trans h7)
 obtain ⟨-, hh, hc⟩ := bodyPlace_ok h5
 have hv := places_var h1 h3
 have hpos : ∀ s ∈ placesL [] r.body, 1 ≤ s.size := fun s hs => var_pos (hv s hs)
 have hf := from_in h5
 have hm := fun x hx hp => placesL_mem r.body [] x hx hp
 have hk : ∀ x ∈ r.body, hasPl x = true → kind0 x.args = 1 := fun x hx hp => by
  rw [atVarsL, List.all_eq_true] at h3
  have := h3 x hx
  rw [hp] at this
  simpa using this
 have hn := (ru_facts h1).2.1
 have hd : (placesL [] r.body).Nodup := placesL_nodup r.body [] (by simp)
 have hagg : r.agg.toList.isEmpty = true ∨ ((bodyPlaceZ r).1.to'.size = 0 ∧ (bodyPlaceZ r).1.head = (bodyPlaceZ r).1.from') := by
  rw [aggFits, Bool.or_eq_true, Bool.and_eq_true, eqS_iff] at h6
  refine h6.imp (fun h => h) (fun h => ⟨?_, h.2⟩)
  have h0 := h.1
  rw [Lib.toList_data, List.isEmpty_iff] at h0
  have : (bodyPlaceZ r).1.to'.size = (bodyPlaceZ r).1.to'.data.toList.length := by rw [Array.length_toList]; rfl
  rw [this, h0]; rfl
 rcases hc with ⟨e1, e2, e3⟩ | ⟨a, b, e1, e2, e3, e4⟩
 ·have hs : (bodyPlaceZ r).1.to'.size = 0 := by rw [e2]; rfl
  refine ⟨fun x hx hp => ⟨hn x hx hp, hk x hx hp, .inl ?_⟩, fun e => ?_, hh.symm, fun h => by omega, fun _ => e3.imp (fun h => h) (fun h => by rw [← firstWay_any _ _ _ 0]; exact h), hagg, hpos _ hf⟩
  ·have := hm x hx hp
   rw [e1] at this
   exact List.mem_singleton.1 this
  ·have := hpos _ hf
   rw [e] at this; omega
 ·have ht : (bodyPlaceZ r).1.to' ∈ placesL [] r.body := by
   rw [e1]; rcases e2 with e2 | e2
   ·rw [e2.2]; simp
   ·rw [e2.2]; simp
  have htp := hpos _ ht
  have hab : a ≠ b := by
   rw [e1] at hd
   simp at hd
   exact hd
  refine ⟨fun x hx hp => ⟨hn x hx hp, hk x hx hp, ?_⟩, fun e => ?_, hh.symm, fun _ => ⟨by rw [← firstWay_any _ _ _ 0]; exact e3, ?_⟩, fun h => by omega, hagg, hpos _ hf⟩
  ·have := hm x hx hp
   rw [e1] at this
   simp at this
   rcases e2 with e2 | e2
   ·rw [e2.1, e2.2]; exact this.imp (fun h => h) (fun h => ⟨by rw [← e2.2]; exact htp, h⟩)
   ·rw [e2.1, e2.2]; exact this.symm.imp (fun h => h) (fun h => ⟨by rw [← e2.2]; exact htp, h⟩)
  ·rcases e2 with e2 | e2
   ·rw [e2.1, e2.2] at e; exact hab e
   ·rw [e2.1, e2.2] at e; exact hab e.symm
  ·rcases e2 with e2 | e2
   ·rw [e2.1, e2.2]; exact e4
   ·rw [e2.1, e2.2]; exact e4.symm
theorem below_drewN (w : World) (n : Nat) : Below w.heap.size w (w.drewN n) := ⟨rfl, rfl, rfl, Nat.le_refl _, fun _ _ => rfl⟩
set_option maxRecDepth 100000 in
set_option maxHeartbeats 2000000 in
theorem at_any (x : Li) (p : Pl) (S : Nat → Prop) (ga : Option Addr) (gc : Nat) (w : World) (hS : ∀ k, S k → k < w.heap.size) (hx : RepMs S w x.args (.slice ga x.args.length gc)) (h1 : 0 < x.args.length) (h2 : kind0 x.args = 1) (h3 : name0 x.args = p.from' ∨ (1 ≤ p.to'.size ∧ name0 x.args = p.to')) :
  Calls Tryz.prog 17 #[.agg #[.int .i64 x.kind, .string x.name, .slice ga x.args.length gc], .agg #[.string p.from', .string p.to', .string p.head]] w fun e w' => e = .returned (.bool true) ∧ Below w.heap.size w w' := by
 have HX := Lib.hid hx; have HS := Lib.hid hS; have H3 := Lib.hid h3
 obtain ⟨-, -, b, o, fa', fc', xa', xc', hga, hb, g0, g1, g2, g3, g4, g5, g6, -⟩ := RepMs.at hx 0 h1
 subst hga
 rw [(kind0_at h1).1] at h2
 have e0 := (kind0_at h1).2
 rw [e0] at H3
 generalize x.args[0] = z at *
 have hbw : b < w.heap.size := HS.out b hb
 clear hx hS e0 h3
 go_enter Tryz.func17, Tryz.ntmps17
 go_upto_region 1 with fail
 have x1 := boxLi_new w (.int .i64 x.kind) (.string x.name) (.slice (some ⟨b, o, none⟩) x.args.length gc)
 have b1 := below_alloc w (.cells #[.int .i64 x.kind, .string x.name, .slice (some ⟨b, o, none⟩) x.args.length gc] 46)
 have s1 := World.size_alloc w (.cells #[.int .i64 x.kind, .string x.name, .slice (some ⟨b, o, none⟩) x.args.length gc] 46)
 generalize w.alloc (.cells #[.int .i64 x.kind, .string x.name, .slice (some ⟨b, o, none⟩) x.args.length gc] 46) = w1 at *
 have x2 : BoxPl (w1.alloc (.cells #[.string p.from', .string p.to', .string p.head] 37)) w1.heap.size (.string p.from') (.string p.to') (.string p.head) := alloc_new' w1 _
 have b2 := below_alloc w1 (.cells #[.string p.from', .string p.to', .string p.head] 37)
 generalize w1.alloc (.cells #[.string p.from', .string p.to', .string p.head] 37) = w2 at *
 rw [s1] at x2
 have X1 := Lib.hid (x1.on b2)
 have B2 := Lib.hid (Below.step b1 b2)
 replace g0 := (B2.out.cell (p := ⟨b, o + 0 * 7, none⟩) hbw).trans g0
 replace g1 := (B2.out.cell (p := ⟨b, o + 0 * 7 + 1, none⟩) hbw).trans g1
 simp only [Nat.zero_mul, Nat.add_zero] at g0 g1
 rw [h2] at g0
 obtain ⟨p0, p1, p2⟩ := X1.out.cells
 obtain ⟨q0, q1, q2⟩ := x2.cells
 have j0 : (0 : Int) < (x.args.length : Int) := by omega
 have i0 : decide ((0 : Int) < (x.args.length : Int)) = true := decide_eq_true j0
 clear x1 x2 b1 b2 s1 g2 g3 g4 g5 g6 hb hbw
 by_cases hf : z.name = p.from'
 ·rw [hf] at g1
  go_quiet (fail)
  go_wp2_with fail
  go_ret
  exact ⟨rfl, Below.step B2.out (below_drewN _ _)⟩
 ·obtain ⟨hto, hn⟩ : 1 ≤ p.to'.size ∧ z.name = p.to' := H3.out.resolve_left hf
  rw [hn] at g1
  have hne : ¬ p.to' = p.from' := fun e => hf (hn.trans e)
  have hl : (p.to'.toList == p.from'.toList) = false := by
   rw [Bool.eq_false_iff]; intro e; rw [beq_iff_eq, Lib.toList_data, Lib.toList_data] at e; exact hne (ByteArray.ext (Array.toList_inj.1 e))
  have ht : (p.to'.toList == []) = false := by
   rw [Bool.eq_false_iff]; intro e
   rw [beq_iff_eq, Lib.toList_data] at e
   have h0 : p.to'.size = p.to'.data.toList.length := by rw [Array.length_toList]; rfl
   rw [e, List.length_nil] at h0; omega
  clear hto hn hf
  go_quiet (fail)
  go_wp2_with fail
  go_ret
  exact ⟨rfl, Below.step B2.out (below_drewN _ _)⟩
end Go.Proofs.YtjohcnhiblfbnaaGreatDoor
namespace Go.Proofs.YtjohcnhiblfbnaaGreatDoor
open Go.RowKit
theorem onWay_of {x : Li} {a b : ByteArray} (h : onWay a b x = true) : x.kind = 1 ∧ x.name = linkS ∧ 1 < x.args.length ∧ name0 x.args = a ∧ kind0 (x.args.drop 1) = 1 ∧ name0 (x.args.drop 1) = b := by
 rw [onWay, isLk, isAt] at h
 simp only [Bool.and_eq_true, decide_eq_true_eq, beq_iff_eq, eqS_iff] at h
 exact ⟨h.1.1, h.1.2.1, h.1.2.2.1, h.2.1, h.1.2.2.2, h.2.2⟩
theorem onWay_to {x : Li} {a b : ByteArray} (h1 : x.kind = 1) (h2 : x.name = linkS) (h3 : 1 < x.args.length) (h4 : name0 x.args = a) (h5 : kind0 (x.args.drop 1) = 1) (h6 : name0 (x.args.drop 1) = b) : onWay a b x = true := by
 rw [onWay, isLk, isAt]
 simp only [Bool.and_eq_true, decide_eq_true_eq, beq_iff_eq, eqS_iff]
 exact ⟨⟨h1, h2, h3, h5⟩, h4, h6⟩
theorem link_name {s : ByteArray} : (s.toList == [108, 105, 110, 107]) = true ↔ s = linkS := by rw [← eqS_iff, eqS_link]
set_option maxRecDepth 100000 in
set_option maxHeartbeats 4000000 in
theorem linked7_any (l : List Li) (a b : ByteArray) (S : Nat → Prop) (w : World) (v : Value) (hS : ∀ k, S k → k < w.heap.size) (hl : RepLis S w l v) (hlen : l.length ≤ 900) :
  Calls Tryz.prog 18 #[v, .string a, .string b] w fun e w' => e = .returned (.bool (linkedB a b l)) ∧ Below w.heap.size w w' := by
 have HL := Lib.hid hl; have HS := Lib.hid hS; have HLN := Lib.hid hlen
 obtain ⟨ga, gc, rfl⟩ := SlG.form hl
 clear hl hS hlen
 go_enter Tryz.func18, Tryz.ntmps18
 go_wp2_with fail
 go_loopw [7] (fun iv wr => ∃ k : Nat, k ≤ l.length ∧ iv = .int .i64 (k : Int) ∧ linkedB a b (l.take k) = false ∧ Below w.heap.size w wr) (fun iv _ => l.length - (intOf iv).toNat)
 case atStart => exact ⟨0, Nat.zero_le _, rfl, rfl, Below.refl _ _⟩
 case round =>
  obtain ⟨k, hk, rfl, hno, hb⟩ := hrel
  have HB := Lib.hid hb
  clear hb
  by_cases hlt : k < l.length
  ·have i1 : decide ((k : Int) < (l.length : Int)) = true := decide_eq_true (by omega)
   have i2 : decide (k < l.length) = true := decide_eq_true hlt
   obtain ⟨-, -, lb, lo, ya, yc, hga, hlb, g0, g1, g2, g⟩ := RepLis.at HL.out k hlt
   have hlw : lb < w.heap.size := HS.out lb hlb
   replace g0 := (HB.out.cell (p := ⟨lb, lo + k * 3, none⟩) hlw).trans g0
   replace g1 := (HB.out.cell (p := ⟨lb, lo + k * 3 + 1, none⟩) hlw).trans g1
   replace g2 := (HB.out.cell (p := ⟨lb, lo + k * 3 + 2, none⟩) hlw).trans g2
   have HTK : Hid (linkedB a b (l.take (k + 1)) = (linkedB a b (l.take k) || onWay a b l[k])) := by show _ = _; rw [List.take_succ_eq_append_getElem hlt, linkedB, List.any_append, List.any_cons, List.any_nil, Bool.or_false]; rfl
   have HIN : Hid (onWay a b l[k] = true → linkedB a b l = true) := by
    show _ → _
    intro h
    rw [linkedB, List.any_eq_true]
    exact ⟨l[k], List.getElem_mem hlt, h⟩
   have HNO := Lib.hid hno
   have hk1 : (0 : Int) ≤ (k : Int) := Int.natCast_nonneg k
   have hk2 : (k : Int) < (l.length : Int) := by omega
   have HKL := Lib.hid hlt
   have HGA0 : Hid (RepMs S w l[k].args (.slice ya l[k].args.length yc)) := g.2.2.2.2
   subst hga
   clear g hlb hlw hno
   generalize l[k] = x at *
   clear hk hlt
   have mk := boxLi_new wr (.int .i64 x.kind) (.string x.name) (.slice ya x.args.length yc)
   have da := below_alloc wr (.cells #[.int .i64 x.kind, .string x.name, .slice ya x.args.length yc] 46)
   go_upto_region 5 with fail
   generalize wr.alloc (.cells #[.int .i64 x.kind, .string x.name, .slice ya x.args.length yc] 46) = w1 at *
   have B1 := Lib.hid (Below.step HB.out da)
   have HGA : Hid (RepMs S w1 x.args (.slice ya x.args.length yc)) := RepMs.on (fun _ h => h) (fun c hc => B1.out.block c (HS.out c hc)) HGA0.out
   obtain ⟨kx, hkx⟩ : ∃ k, wr.heap.size = k := ⟨_, rfl⟩
   rw [hkx] at mk ⊢
   obtain ⟨p0, p1, p2⟩ := mk.cells
   clear mk da hkx g0 g1 g2 HB HGA0 i1 i2 hk1 hk2
   by_cases h1 : x.kind = 1
   ·have c1 : decide (x.kind = 1) = true := decide_eq_true h1
    cases h2 : (x.name.toList == [108, 105, 110, 107]) with
    | true =>
     by_cases h3 : 1 < x.args.length
     ·have c3 : decide ((1 : Int) < (x.args.length : Int)) = true := decide_eq_true (by omega)
      have c4 : (1 : Int) < (x.args.length : Int) := by omega
      have c5 : (0 : Int) < (x.args.length : Int) := by omega
      obtain ⟨-, -, bb, oo, fa0, fc0, xa0, xc0, hya, -, m0, m1, m2, m3, m4, m5, m6, -⟩ := RepMs.at HGA.out 0 (by omega)
      obtain ⟨-, -, cb, co, fa1, fc1, xa1, xc1, hyb, -, n0, n1, n2, n3, n4, n5, n6, -⟩ := RepMs.at HGA.out 1 h3
      subst hya
      injection hyb with hyb
      injection hyb with e1 e2 e3
      subst e1; subst e2
      have HK0 := Lib.hid (kind0_at (show 0 < x.args.length by omega)); have HK1 := Lib.hid (kind1_at h3)
      simp only [Nat.zero_mul, Nat.add_zero, Nat.one_mul] at m0 m1 n0 n1
      clear m2 m3 m4 m5 m6 n2 n3 n4 n5 n6 e3
      generalize x.args[0] = z0 at *
      generalize x.args[1] = z1 at *
      by_cases h4 : z0.name = a
      ·have c6 : (z0.name.toList == a.toList) = true := by rw [h4]; exact beq_self_eq_true _
       by_cases h5 : z1.kind = 1
       ·have c7 : decide (z1.kind = 1) = true := decide_eq_true h5
        by_cases h6 : z1.name = b
        ·have c8 : (z1.name.toList == b.toList) = true := by rw [h6]; exact beq_self_eq_true _
         have HT := Lib.hid (HIN.out (onWay_to h1 (link_name.1 h2) h3 (HK0.out.2.trans h4) (HK1.out.1.trans h5) (HK1.out.2.trans h6)))
         rw [h4] at m1
         rw [h5] at n0
         rw [h6] at n1
         go_wp2_with fail
         go_ret
         exact ⟨ret_bool HT.out.symm, B1.out⟩
        ·have HF : Hid (onWay a b x = false) := by
          show _ = _; rw [Bool.eq_false_iff]; intro h; exact h6 (HK1.out.2.symm.trans (onWay_of h).2.2.2.2.2)
         have c8 : (z1.name.toList == b.toList) = false := by
          rw [Bool.eq_false_iff]; intro e; rw [beq_iff_eq, Lib.toList_data, Lib.toList_data] at e; exact h6 (ByteArray.ext (Array.toList_inj.1 e))
         rw [h4] at m1
         rw [h5] at n0
         go_wp2_with fail
         go_roundw
         case rel => exact ⟨k + 1, HKL.out, (by have := HKL.out; have := HLN.out; rw [show wrap64 ((k : Int) + 1) = ((k + 1 : Nat) : Int) by unfold wrap64; omega]), by rw [HTK.out, HNO.out]; exact HF.out, B1.out⟩
         case measure => exact measure_up HKL.out (by have := HLN.out; omega)
       ·have c7 : decide (z1.kind = 1) = false := decide_eq_false h5
        have HF : Hid (onWay a b x = false) := by
         show _ = _; rw [Bool.eq_false_iff]; intro h; exact h5 (HK1.out.1.symm.trans (onWay_of h).2.2.2.2.1)
        rw [h4] at m1
        go_wp2_with fail
        go_roundw
        case rel => exact ⟨k + 1, HKL.out, (by have := HKL.out; have := HLN.out; rw [show wrap64 ((k : Int) + 1) = ((k + 1 : Nat) : Int) by unfold wrap64; omega]), by rw [HTK.out, HNO.out]; exact HF.out, B1.out⟩
        case measure => exact measure_up HKL.out (by have := HLN.out; omega)
      ·have HF : Hid (onWay a b x = false) := by
        show _ = _; rw [Bool.eq_false_iff]; intro h; exact h4 (HK0.out.2.symm.trans (onWay_of h).2.2.2.1)
       have c6 : (z0.name.toList == a.toList) = false := by
        rw [Bool.eq_false_iff]; intro e; rw [beq_iff_eq, Lib.toList_data, Lib.toList_data] at e; exact h4 (ByteArray.ext (Array.toList_inj.1 e))
       go_wp2_with fail
       go_roundw
       case rel => exact ⟨k + 1, HKL.out, (by have := HKL.out; have := HLN.out; rw [show wrap64 ((k : Int) + 1) = ((k + 1 : Nat) : Int) by unfold wrap64; omega]), by rw [HTK.out, HNO.out]; exact HF.out, B1.out⟩
       case measure => exact measure_up HKL.out (by have := HLN.out; omega)
     ·have c3 : decide ((1 : Int) < (x.args.length : Int)) = false := decide_eq_false (by omega)
      have HF : Hid (onWay a b x = false) := by
       show _ = _; rw [Bool.eq_false_iff]; intro h; exact h3 (onWay_of h).2.2.1
      go_wp2_with fail
      go_roundw
      case rel => exact ⟨k + 1, HKL.out, (by have := HKL.out; have := HLN.out; rw [show wrap64 ((k : Int) + 1) = ((k + 1 : Nat) : Int) by unfold wrap64; omega]), by rw [HTK.out, HNO.out]; exact HF.out, B1.out⟩
      case measure => exact measure_up HKL.out (by have := HLN.out; omega)
    | false =>
     have HF : Hid (onWay a b x = false) := by
      show _ = _; rw [Bool.eq_false_iff]; intro h; have := link_name.2 (onWay_of h).2.1; rw [h2] at this; cases this
     go_wp2_with fail
     go_roundw
     case rel => exact ⟨k + 1, HKL.out, (by have := HKL.out; have := HLN.out; rw [show wrap64 ((k : Int) + 1) = ((k + 1 : Nat) : Int) by unfold wrap64; omega]), by rw [HTK.out, HNO.out]; exact HF.out, B1.out⟩
     case measure => exact measure_up HKL.out (by have := HLN.out; omega)
   ·have c1 : decide (x.kind = 1) = false := decide_eq_false h1
    have HF : Hid (onWay a b x = false) := by
     show _ = _; rw [Bool.eq_false_iff]; intro h; exact h1 (onWay_of h).1
    go_wp2_with fail
    go_roundw
    case rel => exact ⟨k + 1, HKL.out, (by have := HKL.out; have := HLN.out; rw [show wrap64 ((k : Int) + 1) = ((k + 1 : Nat) : Int) by unfold wrap64; omega]), by rw [HTK.out, HNO.out]; exact HF.out, B1.out⟩
    case measure => exact measure_up HKL.out (by have := HLN.out; omega)
  ·have i1 : decide ((k : Int) < (l.length : Int)) = false := decide_eq_false (by omega)
   have i2 : decide (k < l.length) = false := decide_eq_false hlt
   have hkk : l.take k = l := List.take_of_length_le (by omega)
   rw [hkk] at hno
   have HT := Lib.hid hno
   clear hkk hno
   go_wp2_with fail
   go_ret
   exact ⟨ret_bool HT.out.symm, HB.out⟩
end Go.Proofs.YtjohcnhiblfbnaaGreatDoor
