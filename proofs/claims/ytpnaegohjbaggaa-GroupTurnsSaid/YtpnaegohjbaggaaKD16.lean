/-
  GrMain
-/
import Derived.Test.YtpnaegohjbaggaaKD15
namespace Go.Proofs.Ytpnaegohjbaggaa
open Go.RowKit
theorem cell_set4 {w : World} {g o1 o2 o3 o4 b o : Nat} {v1 v2 v3 v4 : Value} (h : b ≠ g) : ((((w.setCell ⟨g, o1, none⟩ v1).setCell ⟨g, o2, none⟩ v2).setCell ⟨g, o3, none⟩ v3).setCell ⟨g, o4, none⟩ v4).cell? ⟨b, o, none⟩ = w.cell? ⟨b, o, none⟩ := by
 have h1 : ∀ (w : World) o1 v1, (w.setCell ⟨g, o1, none⟩ v1).heap[b]? = w.heap[b]? := fun w o1 v1 => Below.heap_setCell _ _ _ _ (by simpa using h)
 simp only [World.cell?, h1]
def GroupIs (s : ByteArray) (n : Nat) (l G : List Ro) : Prop :=
 ∃ (R : List Ro) (M : List Cel) (blk : Nat) (segs : List Sl), MergeIs l R ∧ (M.map (·.1)).Perm (R.filter fun r => decide (n < r.args.length)) ∧ M.Pairwise (fun a b => ¬ cmpBut n b.1 a.1 < 0) ∧ Segs n M blk M.length segs ∧
  G.Perm (segs.map fun q => (newOf (aggV s n) n M q).1) ∧ G.Pairwise (fun a b => ¬ cmpRo b a < 0)
def AggName (s : ByteArray) : Prop := s.toList = [109, 105, 110] ∨ s.toList = [109, 97, 120] ∨ s.toList = [99, 111, 117, 110, 116]
theorem agg_good (s : ByteArray) (tb ab : Nat) (h : aggFn s tb ab ≠ .nilFunc) : AggName s := by
 unfold aggFn at h
 by_cases h1 : (s.toList == ([109, 105, 110] : List UInt8)) = true
 ·exact .inl (beq_iff_eq.1 h1)
 ·rw [if_neg h1] at h
  by_cases h2 : (s.toList == ([109, 97, 120] : List UInt8)) = true
  ·exact .inr (.inl (beq_iff_eq.1 h2))
  ·rw [if_neg h2] at h
   by_cases h3 : (s.toList == ([99, 111, 117, 110, 116] : List UInt8)) = true
   ·exact .inr (.inr (beq_iff_eq.1 h3))
   ·rw [if_neg h3] at h; exact absurd rfl h
def GroupPost (s : ByteArray) (at_ : Int) (l : List Ro) (w : World) (e : Ending) (w' : World) : Prop :=
 Below w.heap.size w w' ∧ ∃ (G : List Ro) (v : Value), e = .returned v ∧ ((¬ AggName s ∨ at_ < 1) → G = []) ∧ (AggName s → 1 ≤ at_ → GroupIs s at_.toNat l G) ∧
  SlG (fun b => w.heap.size ≤ b ∧ b < w'.heap.size) w' kdRo.n kdRo.bytes (kdRo.R (fun b => w.heap.size ≤ b ∧ b < w'.heap.size) w') G v
theorem slg_nilR {α : Type} {S : Nat → Prop} {w : World} {n bytes : Nat} {R : α → (Nat → Value) → Prop} : SlG S w n bytes R [] (.slice none 0 0) := ⟨none, 0, 0, 0, rfl, Nat.le_refl _, by simp, fun h => by omega, fun h => by simp at h, fun i hi => by simp at hi⟩
theorem slg_own0 {α β : Type} {K : Kd α} {S S' : Nat → Prop} {w : World} {B : Nat} {l : List α} {v : Value} (h : OwnK K S w B l v) (hl : l.length = 0) {n bytes : Nat} {R : β → (Nat → Value) → Prop} (w' : World) : SlG S' w' n bytes R ([] : List β) v := by
 obtain ⟨xs, ⟨-, hown⟩, -⟩ := h;rcases hown with ⟨rfl, -⟩ | ⟨g, cap, cur, rfl, -⟩
 ·exact slg_nilR
 ·exact ⟨some ⟨g, 0, none⟩, g, 0, cap, by rw [hl]; rfl, Nat.zero_le _, by simp, fun _ => rfl, fun h => by simp at h, fun i hi => by simp at hi⟩
theorem group_none {s : ByteArray} {n : Nat} {l R : List Ro} (hm : MergeIs l R) (h : R.filter (fun r => decide (n < r.args.length)) = []) : GroupIs s n l [] :=
 ⟨R, [], 0, [], hm, by rw [h]; exact List.Perm.refl _, List.Pairwise.nil, .nil, List.Perm.refl _, List.Pairwise.nil⟩
set_option maxRecDepth 100000 in
set_option maxHeartbeats 8000000 in
theorem group_any (s : ByteArray) (at_ : Int) (l : List Ro) (S : Nat → Prop) (w : World) (a : Value) (hat : I64 at_) (hS : ∀ k, S k → k < w.heap.size) (ha : SlG S w kdRo.n kdRo.bytes (kdRo.R S w) l a) :
  Calls Try.prog 17 #[.string s, .int .i64 at_, a] w (GroupPost s at_ l w) := by
 have HA := Lib.hid ha; have HS := Lib.hid hS; have HAT := Lib.hid hat
 obtain ⟨aa, ac, rfl⟩ := SlG.form ha;have m0 := alloc_new' w (.cells #[.int .i64 at_] 3);have d0 := below_alloc w (.cells #[.int .i64 at_] 3);have s0 := World.size_alloc w (.cells #[.int .i64 at_] 3);have qn : ∀ w, (binOp .eql 70 .nilFunc .nilFunc).run Try.prog w = .ok (.bool true) w := fun w => by kernel_rfl
 have qf : ∀ g cb w, (binOp .eql 70 (.func (.func g) #[] cb) .nilFunc).run Try.prog w = .ok (.bool false) w := fun g cb w => by kernel_rfl
 clear ha hS hat;go_enter Try.func17, Try.ntmps17
 go_upto_region 1 with fail
 obtain ⟨a0, ha0⟩ : ∃ b, w.heap.size = b := ⟨_, rfl⟩;have HA0 := Lib.hid ha0;rw [ha0] at m0 s0 ⊢;clear ha0;have D0 := Lib.hid d0;generalize w.alloc (.cells #[.int .i64 at_] 3) = w1 at *;have M0 := Lib.hid m0; have S0 := Lib.hid s0
 have c0 := cell_of_block' (i := 0) m0 _ rfl;clear m0 d0 s0;go_wp2_with fail
 refine (aggregate_any s at_ w1).mono ?_;rintro e w2 ⟨rfl, hA, hT, ho⟩;have M2 : Hid (w2.heap[a0]? = some (.cells #[.int .i64 at_] 3 (0, 0))) := (ho.below.block a0 (by have := S0.out; omega)).trans M0.out;have B2 : Hid (Below w.heap.size w w2) := Below.step D0.out ho.below;obtain ⟨ab, hab⟩ : ∃ b, w1.heap.size = b := ⟨_, rfl⟩;rw [hab] at hA hT ⊢;have HAB : Hid (a0 < ab ∧ ab + 1 < w2.heap.size) := ⟨by have := S0.out; omega, (Array.getElem?_eq_some_iff.1 hT).1⟩;have HA' := Lib.hid hA; have HT' := Lib.hid hT
 clear c0 ho hab hA hT D0 M0 S0;have c0 := cell_of_block' (i := 0) M2.out _ rfl;have HGOOD0 := agg_good s (ab + 1) ab;rcases agg_tells s at_.toNat ab (ab + 1) with ⟨hf, hn1, hn2, hn3⟩ | ⟨g, cb, hf, hen, htell⟩
 ·have HN : Hid (¬ AggName s) := fun h => by rcases h with h | h | h; exact hn1 h; exact hn2 h; exact hn3 h
  rw [hf];clear hf hn1 hn2 hn3 HGOOD0;go_wp2_with fail
  go_ret
  exact ⟨B2.out, [], _, rfl, fun _ => rfl, fun h => absurd h HN.out, slg_nilR⟩
 ·have HEN := Lib.hid hen; have HTL := Lib.hid htell
  have HGOOD : Hid (AggName s) := HGOOD0 (by rw [hf]; simp);clear HGOOD0;rw [hf];clear hf hen htell
  by_cases h1 : at_ < 1
  ·have k1 : decide (at_ < 1) = true := decide_eq_true h1
   go_wp2_with fail
   go_ret
   exact ⟨B2.out, [], _, rfl, fun _ => rfl, fun _ h => by omega, slg_nilR⟩
  ·obtain ⟨n, hn⟩ : ∃ n : Nat, at_ = (n : Int) := ⟨at_.toNat, by omega⟩
   subst hn;rw [Int.toNat_natCast] at HTL;have k1 : decide ((n : Int) < 1) = false := decide_eq_false h1;have HN1 : Hid (1 ≤ n) := by show _ ≤ _; omega
   go_upto_region 4 with fail
   clear k1 h1;go_wp2_with fail
   refine (Merge_any l S w2 _ (fun k hk => Nat.lt_of_lt_of_le (HS.out k hk) B2.out.size) (SlG.on (fun _ h => h) (fun k hk => B2.out.block k (HS.out k hk)) (fun _ _ _ h => kdRo.on (fun _ h => h) (fun k hk => B2.out.block k (HS.out k hk)) h) HA.out)).mono ?_;rintro e w3 ⟨hb3, R, hm, ⟨rfl, na, nc, rfl, hac⟩ | ⟨gb, gc, rfl, hgc, hby, hrt⟩⟩
   ·have HM := Lib.hid hm; have B3 := Lib.hid (Below.step B2.out hb3)
    have c3 := (hb3.cell (p := ⟨a0, 0, none⟩) (cell_lt c0)).trans c0;have C3 := Lib.hid c3;clear hm hac hb3 c0;go_wp2_with fail
    refine (delete_none na nc _ _).mono ?_;rintro e w4 ⟨rfl, rfl⟩;go_wp2_with fail
    refine (sets_none (n : Int) na nc _).mono ?_;rintro e w5 ⟨rfl, hb5⟩;have B5 := Lib.hid (Below.step B3.out hb5);clear hb5 c3;go_wp2_with fail
    go_loopw [9, 30] (fun ov iv wr => ov = .slice none 0 0 ∧ iv = .int .i64 0 ∧ wr = w5) (fun _ _ _ => 0)
    case atStart => exact ⟨rfl, rfl, rfl⟩
    case round =>
     obtain ⟨rfl, rfl, rfl⟩ := hrel;go_wp2_with fail
     refine (AnyF.slices_SortFunc_none Try.sortRow none 0 _ _).mono ?_;rintro e w6 ⟨rfl, rfl⟩;go_wp2_with fail
     go_ret
     exact ⟨B5.out, [], _, rfl, fun _ => rfl, fun _ _ => by rw [Int.toNat_natCast]; exact group_none HM.out rfl, slg_nilR⟩
   ·obtain ⟨LC, N, hLR, hap, hown, hrow, hgb⟩ := cows_of hrt
    have hlen : R.length = (LC.map (·.1)).length := by rw [← hLR]; simp
    have B3 := Lib.hid (Below.step B2.out hb3);have c3 := (hb3.cell (p := ⟨a0, 0, none⟩) (cell_lt c0)).trans c0;have hA3 : w3.heap[a0]? = some (.cells #[.int .i64 (n : Int)] 3 (0, 0)) := (hb3.block a0 (by have := HAB.out; omega)).trans M2.out
    have hdel := delete_any (LC.map (·.1)) (fun x => decide (x.1.args.length ≤ n)) gb gc N 36 #[.pointer (some ⟨a0, 0, none⟩)] w3 (by rw [← hlen]; omega) (by rw [← hlen]; exact hgc) (fun args w => by kernel_rfl) hrow
     (fun x hx => by
      obtain ⟨c, hc, rfl⟩ := List.mem_map.1 hx;obtain ⟨fa, fc, -, e, -⟩ := (hown c hc).2.rep.form
      exact ⟨fa, _, fc, e⟩)
     (fun x hx W hW => by
      obtain ⟨c, hc, rfl⟩ := List.mem_map.1 hx;have ho := (hown c hc).2.on hW.size (fun k hk => hW.block k (Nat.lt_of_lt_of_le hk.2 (hown c hc).2.1) (by have := (hown c hc).1; have := hk.1; omega));have e := hW.block a0 (by have := HAB.out; have := hb3.size; omega) (by have := HAB.out; omega);rw [hA3] at e
      exact short_any c.1 a0 n _ W ho.rep (cell_of_block' (i := 0) e _ rfl))
    have hkeep : keepC (fun x => decide (x.1.args.length ≤ n)) (LC.map (·.1)) = (LC.filter fun c => decide (n < c.1.1.args.length)).map (·.1) := by
     unfold keepC;rw [List.filter_map]
     congr 1
     apply List.filter_congr
     intro c _
     show (!decide (c.1.1.args.length ≤ n)) = decide (n < c.1.1.args.length)
     by_cases h : n < c.1.1.args.length
     ·rw [decide_eq_true h, decide_eq_false (by omega)]; rfl
     ·rw [decide_eq_false h, decide_eq_true (by omega)]; rfl
    rw [hkeep, ← hlen] at hdel
    have hfil : R.filter (fun r => decide (n < r.args.length)) = (LC.filter fun c => decide (n < c.1.1.args.length)).map (fun c => c.1.1) := by
     rw [← hLR, List.filter_map]; rfl
    have HDEL := Lib.hid hdel; have HM := Lib.hid hm; have HFIL := Lib.hid hfil
    have hown1 : ∀ c ∈ LC.filter (fun c => decide (n < c.1.1.args.length)), gb < c.2.1 ∧ OwnC w3 c ∧ n < c.1.1.args.length := fun c hc => by
     obtain ⟨h1, h2⟩ := List.mem_filter.1 hc;exact ⟨(hown c h1).1, (hown c h1).2, of_decide_eq_true h2⟩
    have hap1 : Apart (LC.filter fun c => decide (n < c.1.1.args.length)) := List.Pairwise.filter _ hap;have HOWN := Lib.hid hown1; have HAP := Lib.hid hap1
    have HGB : Hid (w2.heap.size ≤ gb ∧ R.length ≤ gc ∧ R.length * 48 ≤ 140737488355328) := ⟨hgb, hgc, hby⟩
    have hl1 : (LC.filter fun c => decide (n < c.1.1.args.length)).length ≤ R.length := by
     rw [hlen, List.length_map]; exact List.length_filter_le _ _
    have HL1 := Lib.hid hl1;clear hdel hfil hkeep hLR hap hown hrow hgb hlen hm hrt hgc hby hown1 hap1 hl1 c0;generalize (LC.filter fun c => decide (n < c.1.1.args.length)) = LD at *;go_wp2_with fail
    refine HDEL.out.mono ?_;clear HDEL;rintro e w4 ⟨rfl, hrow4, hbe4⟩;have HR4 := Lib.hid hrow4; have HBE4 := Lib.hid hbe4
    have h34 : w3.heap.size ≤ w4.heap.size := hbe4.size;have hA4 : w4.heap[a0]? = some (.cells #[.int .i64 (n : Int)] 3 (0, 0)) := (hbe4.block a0 (by have := HAB.out; have := hb3.size; omega) (by have := HAB.out; have := HGB.out; omega)).trans hA3;have c4 := cell_of_block' (i := 0) hA4 _ rfl
    have T4 : Hid (w4.heap[ab]? = some (.cells #[.int .i64 (n : Int)] 3 (0, 0)) ∧ w4.heap[ab + 1]? = some (.cells #[.func (.func 56) #[] #[.pointer (some ⟨ab, 0, none⟩)]] 78 (0, 0))) :=
     ⟨(hbe4.block ab (by have := HAB.out; have := hb3.size; omega) (by have := HAB.out; have := HGB.out; omega)).trans ((hb3.block ab (by have := HAB.out; omega)).trans HA'.out), (hbe4.block (ab + 1) (by have := HAB.out; have := hb3.size; omega) (by have := HAB.out; have := HGB.out; omega)).trans ((hb3.block (ab + 1) (by have := HAB.out; omega)).trans HT'.out)⟩
    have B4 : Hid (Below w.heap.size w w4) := B3.out.trans (hbe4.below (by have := HGB.out; have := B2.out.size; omega) B3.out.size);have HA4 := Lib.hid hA4
    have own4 : ∀ c ∈ LD, gb < c.2.1 ∧ c.2.2 ≤ w3.heap.size ∧ OwnC w4 c ∧ n < c.1.1.args.length := fun c hc => by
     obtain ⟨h1, h2, h3⟩ := HOWN.out c hc;exact ⟨h1, h2.1, h2.on hbe4.size (fun k hk => hbe4.block k (Nat.lt_of_lt_of_le hk.2 h2.1) (by have := hk.1; omega)), h3⟩
    have OWN4 := Lib.hid own4;have HIX : Hid (a0 < w3.heap.size ∧ ab + 1 < w3.heap.size ∧ a0 < gb ∧ ab + 1 < gb ∧ w3.heap.size ≤ w4.heap.size ∧ gb < w4.heap.size) := ⟨by have := HAB.out; have := hb3.size; omega, by have := HAB.out; have := hb3.size; omega, by have := HAB.out; have := HGB.out; omega, by have := HAB.out; have := HGB.out; omega, h34, hrow4.1.lt⟩;clear c3 hA3 hrow4 hbe4 h34 hA4 own4 hb3
    by_cases hne : LD = []
    ·have HNE := Lib.hid hne
     have hz : (LD.map (·.1)).length = 0 := by rw [hne]; rfl
     rw [hz];clear hz hne;go_wp2_with fail
     refine (sets_none (n : Int) _ gc _).mono ?_;rintro e w5 ⟨rfl, hb5⟩;have B5 := Lib.hid (Below.step B4.out hb5);clear hb5 c4;go_wp2_with fail
     go_loopw [9, 30] (fun ov iv wr => ov = .slice none 0 0 ∧ iv = .int .i64 0 ∧ wr = w5) (fun _ _ _ => 0)
     case atStart => exact ⟨rfl, rfl, rfl⟩
     case round =>
      obtain ⟨rfl, rfl, rfl⟩ := hrel;go_wp2_with fail
      refine (AnyF.slices_SortFunc_none Try.sortRow none 0 _ _).mono ?_;rintro e w6 ⟨rfl, rfl⟩;go_wp2_with fail
      go_ret
      exact ⟨B5.out, [], _, rfl, fun _ => rfl, fun _ _ => by rw [Int.toNat_natCast]; exact group_none HM.out (by rw [HFIL.out, HNE.out]; rfl), slg_nilR⟩
    ·have hlong : ∀ x ∈ LD.map (·.1), n < x.1.args.length := fun x hx => by
      obtain ⟨c, hc, rfl⟩ := List.mem_map.1 hx;exact (OWN4.out c hc).2.2.2
     have hn63 : n ≤ 140737488355328 := by
      obtain ⟨c, hc⟩ := List.exists_mem_of_ne_nil LD hne;have h1 := (OWN4.out c hc).2.2.2;have h2 := (OWN4.out c hc).2.2.1.2.1.1;omega
     have hsets := sets_any n (LD.map (·.1)) (by simpa using hne) gb gc N w4 (fun k => ∃ c ∈ LD, Iv c k) hn63 (by rw [List.length_map]; have := HL1.out; have := HGB.out; omega) (by rw [List.length_map]; have := HL1.out; have := HGB.out; omega) HR4.out
      (fun k hk => by
       obtain ⟨c, hc, h1, h2⟩ := hk;have h3 := OWN4.out c hc
       exact ⟨Nat.lt_of_lt_of_le h2 h3.2.2.1.1, by omega⟩)
      (fun x hx => by
       obtain ⟨c, hc, rfl⟩ := List.mem_map.1 hx
       exact RepRo.on (fun k hk => ⟨c, hc, hk⟩) (fun _ _ => rfl) (OWN4.out c hc).2.2.1.rep) hlong
     rw [List.length_map] at hsets;have HSE := Lib.hid hsets;have HN63 := Lib.hid hn63;clear hlong hn63 hsets hne;go_wp2_with fail
     refine HSE.out.mono ?_;clear HSE c4;rintro e w5 ⟨M, segs, la, lc, rfl, hp, hsrt, hrow5, hsegs, hms, hbe5⟩;obtain ⟨LC2, hp2, rfl⟩ := perm_lift (·.1) hp LD rfl;have hs' : (LC2.map (·.1)).Pairwise (fun a b => ¬ cmpBut n b.1 a.1 < 0) := hsrt.imp fun h => by omega
     have hm34 : ∀ c ∈ LC2, c ∈ LD := fun c hc => hp2.mem_iff.1 hc
     have own5 : ∀ c ∈ LC2, gb < c.2.1 ∧ c.2.2 ≤ w3.heap.size ∧ OwnC w5 c ∧ n < c.1.1.args.length := fun c hc => by
      obtain ⟨h1, h2, h3, h4⟩ := OWN4.out c (hm34 c hc);exact ⟨h1, h2, h3.on hbe5.size (fun k hk => hbe5.block k (Nat.lt_of_lt_of_le hk.2 h3.1) (by have := hk.1; omega)), h4⟩
     have hA5 : w5.heap[a0]? = some (.cells #[.int .i64 (n : Int)] 3 (0, 0)) := (hbe5.block a0 (by have := HIX.out; omega) (by have := HIX.out; omega)).trans HA4.out
     have hT5 : w5.heap[ab]? = some (.cells #[.int .i64 (n : Int)] 3 (0, 0)) ∧ w5.heap[ab + 1]? = some (.cells #[.func (.func 56) #[] #[.pointer (some ⟨ab, 0, none⟩)]] 78 (0, 0)) :=
      ⟨(hbe5.block ab (by have := HIX.out; omega) (by have := HIX.out; omega)).trans T4.out.1, (hbe5.block (ab + 1) (by have := HIX.out; omega) (by have := HIX.out; omega)).trans T4.out.2⟩
     have hB5 : Below w.heap.size w w5 := B4.out.trans (hbe5.below (by have := HGB.out; have := B2.out.size; omega) B4.out.size)
     have hniv : ∀ b, (b ≤ gb ∨ w3.heap.size ≤ b) → ∀ c ∈ LC2, ¬ Iv c b := fun b hb c hc hk => by
      obtain ⟨h1, h2, -⟩ := own5 c hc;have := hk.1; have := hk.2; omega
     have hsg := seg_facts hsegs
     have hlk : 0 < segs.length → ∃ sb cap cs, la = some ⟨sb, 0, none⟩ ∧ w4.heap.size ≤ sb ∧ sb < w5.heap.size ∧ w5.heap[sb]? = some (.cells cs 40 (0, 0)) ∧ cap = lc ∧ ∀ i (h : i < segs.length), cs[i]? = some (.slice (some ⟨segs[i].1, segs[i].2.1 * 3, none⟩) segs[i].2.2.1 segs[i].2.2.2) := fun h => by
      obtain ⟨sb, cap, cs, e, h1, h2, h3, h4, h5⟩ := OwnK.look hms h
      injection e with e1 e2 e3
      refine ⟨sb, cap, cs, e1, h1, (Array.getElem?_eq_some_iff.1 h3).1, h3, e3.symm, fun i hi => ?_⟩;obtain ⟨c, hc, hR⟩ := h5 i hi;have h6 := hc 0 (by decide);have hR' : c 0 = .slice (some ⟨segs[i].1, segs[i].2.1 * 3, none⟩) segs[i].2.2.1 segs[i].2.2.2 := hR;rw [hR'] at h6
      simpa [kdSl] using h6
     have hgi : GInv (aggV s n) n LC2 segs w5 0 (.slice none 0 0) w5 :=
      ⟨Nat.zero_le _, by rw [List.take_zero]; exact MineS.nil _ _, fun p hp _ => (own5 _ (List.getElem_mem hp)).2.2.1, fun j _ h => by omega, fun _ _ _ => rfl, rfl, rfl, rfl, Nat.le_refl _⟩
     have HS' := Lib.hid hs'; have OWN5 := Lib.hid own5; have HA5 := Lib.hid hA5; have HT5 := Lib.hid hT5; have B5 := Lib.hid hB5; have HNIV := Lib.hid hniv; have HSG := Lib.hid hsg; have HLK := Lib.hid hlk; have HGI := Lib.hid hgi
     have HP2 := Lib.hid hp2; have HR5 := Lib.hid hrow5; have HSEG := Lib.hid hsegs
     have HAP2 : Hid (Apart LC2) := HAP.out.perm hp2;have HLC : Hid (LC2.length ≤ R.length) := by rw [hp2.length_eq]; exact HL1.out
     have H35 : Hid (w3.heap.size ≤ w5.heap.size ∧ w4.heap.size ≤ w5.heap.size) := ⟨by have := HIX.out; have := hbe5.size; omega, hbe5.size⟩;have HSL : Hid (segs.length ≤ LC2.length) := by have h := hsegs.len; rw [List.length_map] at h; exact h
     clear hs' hm34 own5 hA5 hT5 hB5 hniv hsg hlk hgi hp2 hp hrow5 hsegs hms hbe5 hsrt;go_wp2_with fail
     go_loopw [9, 30] (fun ov iv wr => ∃ i : Nat, iv = .int .i64 (i : Int) ∧ Hid (GInv (aggV s n) n LC2 segs w5 i ov wr)) (fun _ iv _ => segs.length - (intOf iv).toNat)
     case atStart => exact ⟨0, rfl, HGI⟩
     case round =>
      clear HGI;obtain ⟨i, rfl, hinv⟩ := hrel;obtain ⟨na, nc, hform⟩ := OwnK.form hinv.out.out;rw [List.length_map, List.length_take, Nat.min_eq_left hinv.out.le] at hform;subst hform
      by_cases hlt : i < segs.length
      ·obtain ⟨sb, cap', cs, rfl, hsb1, hsb2, hsbh, -, hcs⟩ := HLK.out (by omega)
       obtain ⟨⟨qb, o, k, c⟩, hq⟩ : ∃ q, segs[i] = q := ⟨_, rfl⟩;obtain ⟨q1, q2, q3, q4, -⟩ := HSG.out.2 i hlt;have hcs2 := hcs i hlt;rw [hq] at q1 q2 q3 q4 hcs2;have q1' : qb = gb := q1;subst q1';obtain ⟨m, rfl⟩ : ∃ m, k = m + 1 := ⟨k - 1, by have : 0 < k := q2; omega⟩
       have hsf : ∀ j (hj : j < segs.length), j < i → segs[j].2.1 + segs[j].2.2.1 ≤ o := fun j hj hji => by
        have := (HSG.out.2 j hj).2.2.2.2 i hlt hji;rw [hq] at this; exact this
       have hmo : o + (m + 1) ≤ (LC2.map (·.1)).length := q3;have hrw : RowsAt wr qb N (LC2.map (·.1)) := HR5.out.same (hinv.out.keep qb HR5.out.1.lt (HNIV.out qb (.inl (Nat.le_refl _))));obtain ⟨h0, l', ga, cx, e1, e2, e3, e4, e5, e6, e7, e8⟩ := ginv_set (c := c) hinv.out HAP2.out hsf hmo hrw (fun a ha => (OWN5.out a ha).2.2.2);have hsame : ∀ b, b < w5.heap.size → (∀ cc ∈ LC2, ¬ Iv cc b) → wr.heap[b]? = w5.heap[b]? := hinv.out.keep;have s0 : wr.cell? ⟨sb, i, none⟩ = some (.slice (some ⟨qb, o * 3, none⟩) (m + 1) c) := cell_of_block' ((hsame sb hsb2 (HNIV.out sb (.inr (by have := HIX.out; omega)))).trans hsbh) _ hcs2;have hAr : wr.heap[a0]? = some (.cells #[.int .i64 (n : Int)] 3 (0, 0)) := (hsame a0 (by have := HIX.out; have := H35.out; omega) (HNIV.out a0 (.inl (by have := HIX.out; omega)))).trans HA5.out;have hTa : wr.heap[ab]? = some (.cells #[.int .i64 (n : Int)] 3 (0, 0)) := (hsame ab (by have := HIX.out; have := H35.out; omega) (HNIV.out ab (.inl (by have := HIX.out; omega)))).trans HT5.out.1;have hTb := (hsame (ab + 1) (by have := HIX.out; have := H35.out; omega) (HNIV.out (ab + 1) (.inl (by have := HIX.out; omega)))).trans HT5.out.2;have c0 := cell_of_block' (i := 0) hAr _ rfl;have HE1 := Lib.hid e1; have HE4 := Lib.hid e4; have HE5 := Lib.hid e5; have HE8 := Lib.hid e8
       have HI6 : Hid (∀ y ∈ LC2[o].1 :: l', I64 y.1.stamp) := fun y hy => (e7 y hy).1.2.2.2.2
       obtain ⟨x, hx⟩ : ∃ x, LC2[o].1 = x := ⟨_, rfl⟩;have HXE : Hid (∀ h0 : o < LC2.length, LC2[o].1 = x) := fun _ => hx
       rw [hx] at e4 e6 e7;have hnx : n < x.1.args.length := (e7 x (by simp)).2.1;have hxi : I64 x.1.stamp := (e7 x (by simp)).1.2.2.2.2;have hga5 : ga < w3.heap.size ∧ ga < wr.heap.size ∧ ga ≠ a0 := ⟨Nat.lt_of_lt_of_le e5.2 (OWN5.out _ (List.getElem_mem h0)).2.1, Nat.lt_of_lt_of_le e5.2 e3.1, by have := (OWN5.out _ (List.getElem_mem h0)).1; have := e5.1; have := HIX.out; omega⟩;have HGA := Lib.hid hga5;have hr0 := e6 0 (by simp);simp only [Nat.add_zero, List.getElem_cons_zero] at hr0
       obtain ⟨r0, r1, r2⟩ := hr0;rw [e4] at r1;have HE6 := Lib.hid e6; have HE7 := Lib.hid e7
       have HL2 : Hid (l'.length = m) := e2;have HQ : Hid (∀ h : i < segs.length, segs[i] = (qb, o, m + 1, c)) := fun _ => hq; have HSF := Lib.hid hsf; have HH0 := Lib.hid h0; have HLT := Lib.hid hlt; have HTA := Lib.hid hTa; have HTB := Lib.hid hTb; have HAR := Lib.hid hAr
       have HE4X := Lib.hid e4;have HMC : Hid (m + 1 ≤ c ∧ m + 1 ≤ LC2.length) := ⟨q4, by rw [List.length_map] at hmo; omega⟩;have HQB : Hid (qb < wr.heap.size) := Nat.lt_of_lt_of_le HR5.out.1.lt hinv.out.size;have k1 : decide ((i : Int) < (segs.length : Int)) = true := decide_eq_true (by omega);have k2 : decide (i < segs.length) = true := decide_eq_true hlt;have k3 : (0 : Int) ≤ (i : Int) := Int.natCast_nonneg i;have k4 : (i : Int) < (segs.length : Int) := by omega
       have k5 : (0 : Int) < (m : Int) + 1 := by omega
       have hmb := alloc_new' wr (.cells #[.string x.1.name, .slice (some ⟨ga, 0, none⟩) x.1.args.length cx, .int .i64 x.1.stamp] 47);have hdb := below_alloc wr (.cells #[.string x.1.name, .slice (some ⟨ga, 0, none⟩) x.1.args.length cx, .int .i64 x.1.stamp] 47);clear hsame hcs2 hcs hsbh hAr hTa hTb e1 e2 e3 e4 e5 e6 e7 e8 hx hq hsf hmo hrw q1 q2 q3 q4 hsb1 hsb2 hga5;go_upto_region 10 with fail
       obtain ⟨bt, hbt⟩ : ∃ b, wr.heap.size = b := ⟨_, rfl⟩;have HBT := Lib.hid hbt;rw [hbt] at hmb ⊢;clear hbt r0 r1 r2 s0 k1 k2 k3 k4 k5 hlt;have HDB := Lib.hid hdb;generalize wr.alloc (.cells #[.string x.1.name, .slice (some ⟨ga, 0, none⟩) x.1.args.length cx, .int .i64 x.1.stamp] 47) = wA at *;have MB := Lib.hid hmb;have p1 : wA.drew.cell? ⟨bt, 1, none⟩ = some (.slice (some ⟨ga, 0, none⟩) x.1.args.length cx) := cell_of_block' (i := 1) hmb _ rfl;have q0 : wA.drew.cell? ⟨a0, 0, none⟩ = some (.int .i64 (n : Int)) := (hdb.cell (p := ⟨a0, 0, none⟩) (cell_lt c0)).trans c0;have HDD : Hid (Below wr.heap.size wr wA.drew) := Below.drew hdb;have k6 : (0 : Int) ≤ (n : Int) := Int.natCast_nonneg n;have k7 : (n : Int) < (x.1.args.length : Int) := by omega
       have hcall := HTL.out x l' qb o c (SetS LC2 (qb, o, m + 1, c)) wA.drew (by have := HL2.out; have := HMC.out.2; have := HLC.out; have := HGB.out; omega) (fun k hk => Nat.lt_of_lt_of_le (HE8.out k hk) HDD.out.size)
        (cell_of_block' (i := 0) ((HDD.out.block ab (by have := HIX.out; have := H35.out; have := hinv.out.size; omega)).trans HTA.out) _ rfl)
        (cell_of_block' (i := 0) ((HDD.out.block (ab + 1) (by have := HIX.out; have := H35.out; have := hinv.out.size; omega)).trans HTB.out) _ rfl)
        (fun j h => (HE6.out j h).on HQB.out HDD.out) (Nat.lt_of_lt_of_le HQB.out HDD.out.size)
        (fun y hy => RepRo.on (fun _ h => h) (fun k hk => HDD.out.block k (HE8.out k hk)) (HE7.out y hy).1) (fun y hy => (HE7.out y hy).2.1)
        (fun k => SetS LC2 (qb, o, m + 1, c) k ∧ k ≠ ga) (fun k hk => Nat.lt_of_lt_of_le (HE8.out k hk.1) HDD.out.size)
        (fun y hy => by
         intro c3 xb xo xc he hcell;have hy7 := HE7.out y hy
         have hxb : xb < wr.heap.size := by
          have h := slg_of_lg hy7.1.2.2.1;rw [he] at h;obtain ⟨-, -, b, o', e, hb, -⟩ := SlG.at h n hy7.2.1
          injection e with e
          injection e with e _
          rw [e]; exact HE8.out b hb
         exact RepG.on (fun _ h => h) (fun k hk => HDD.out.block k (HE8.out k hk.1)) _ (hy7.2.2 c3 xb xo xc he (((HDD.out.cell (p := ⟨xb, xo + n * 4 + 3, none⟩) hxb).symm.trans hcell))))
       rw [HL2.out] at hcall;have HCALL := Lib.hid hcall;have HLA : Hid (bt < wA.drew.heap.size ∧ a0 < wA.drew.heap.size ∧ ga < wA.drew.heap.size ∧ bt ≠ ga) := ⟨cell_lt p1, cell_lt q0, Nat.lt_of_lt_of_le HGA.out.2.1 HDD.out.size, by have := HBT.out; have := HGA.out; omega⟩
       have HOWNA : Hid (∀ W, Below wA.drew.heap.size wA.drew W → ∃ v0 v1 v2 v3, W.cell? ⟨ga, n * 4, none⟩ = some v0 ∧ W.cell? ⟨ga, n * 4 + 1, none⟩ = some v1 ∧ W.cell? ⟨ga, n * 4 + 2, none⟩ = some v2 ∧ W.cell? ⟨ga, n * 4 + 3, none⟩ = some v3 ∧ ∀ o, W.frozen? ⟨ga, o, none⟩ = false) := fun W hW => by
        have how := hinv.out.rest o HH0.out HSF.out;have hb : Below wr.heap.size wr W := Below.step HDD.out hW;have howW := how.on hb.size (fun k hk => hb.block k (Nat.lt_of_lt_of_le hk.2 how.1));obtain ⟨ga2, cc, g1, g2, g3, g4, -⟩ := own_put (u := numN 0) (S := fun _ => False) howW (by have h := HXE.out HH0.out; rw [h]; exact hnx) (numN_rep _ _ 0 (by unfold I64; omega))
        have hge : ga2 = ga := by
         rw [HE4.out] at g1
         injection g1 with e _ _
         injection e with e
         injection e with e _
         exact e.symm
        subst hge;obtain ⟨v0, y0⟩ := g4 0 (by decide); obtain ⟨v1, y1⟩ := g4 1 (by decide); obtain ⟨v2, y2⟩ := g4 2 (by decide); obtain ⟨v3, y3⟩ := g4 3 (by decide)
        exact ⟨v0, v1, v2, v3, y0, y1, y2, y3, g3⟩
       clear hcall hmb hdb c0;obtain ⟨u, hu0⟩ : ∃ u, aggV s n x l' = u := ⟨_, rfl⟩;rw [hu0] at HCALL;have HU := Lib.hid hu0;clear hu0;have hen := HEN.out
       go_region_held3 (fun w' => w'.cell? ⟨bt, 1, none⟩ = some (.slice (some ⟨ga, 0, none⟩) x.1.args.length cx) ∧ w'.cell? ⟨a0, 0, none⟩ = some (.int .i64 (n : Int)))
        (first | (with_reducible exact ⟨p1, q0⟩) | (with_reducible exact ⟨(hb.cell (p := ⟨bt, 1, none⟩) HLA.out.1).trans p1, (hb.cell (p := ⟨a0, 0, none⟩) HLA.out.2.1).trans q0⟩) | (with_reducible exact ⟨(cell_set4 HLA.out.2.2.2).trans ((hb.cell (p := ⟨bt, 1, none⟩) HLA.out.1).trans p1), (cell_set4 (Ne.symm HGA.out.2.2)).trans ((hb.cell (p := ⟨a0, 0, none⟩) HLA.out.2.1).trans q0)⟩))
        (first | (go_at_fn g; refine HCALL.out.mono ?_; rintro e wB ⟨c0', c1', c2', c3', rfl, hu, hb⟩; obtain ⟨ua, uc, rfl, rfl, rfl, rfl⟩ := hu.form; obtain ⟨v0, v1, v2, v3, y0, y1, y2, y3, hfz⟩ := HOWNA.out wB hb; have z0 := hfz (n * 4); have z1 := hfz (n * 4 + 1); have z2 := hfz (n * 4 + 2); have z3 := hfz (n * 4 + 3)))
       have HBB : Hid (Below wr.heap.size wr wB) := Below.step HDD.out hb;have HUB := Lib.hid hu;have hmbB : wB.heap[bt]? = some (.cells #[.string x.1.name, .slice (some ⟨ga, 0, none⟩) x.1.args.length cx, .int .i64 x.1.stamp] 47 (0, 0)) := (hb.block bt HLA.out.1).trans MB.out;obtain ⟨wC, hwC⟩ : ∃ z, (((wB.setCell ⟨ga, n * 4, none⟩ (.int .i64 u.kind)).setCell ⟨ga, n * 4 + 1, none⟩ (.int .i64 u.num)).setCell ⟨ga, n * 4 + 2, none⟩ (.string u.text)).setCell ⟨ga, n * 4 + 3, none⟩ (.slice ua u.list.length uc) = z := ⟨_, rfl⟩;rw [hwC];have hpC : wC = putCells wB ga (n * 4) [.int .i64 u.kind, .int .i64 u.num, .string u.text, .slice ua u.list.length uc] := hwC.symm.trans rfl;have hothC : ∀ b, b ≠ ga → wC.heap[b]? = wB.heap[b]? := fun b hb => by rw [hpC]; exact putCells_other _ _ hb _ _ _
       have hszC : wC.heap.size = wB.heap.size := by rw [hpC]; exact putCells_size _ _ _ _
       have hbC0 : Below 0 wB wC := by rw [hpC]; exact putCells_below 0 _ (Nat.zero_le _) _ _ _ (Below.refl _ _)
       have HPC := Lib.hid hpC; have HOC := Lib.hid hothC; have HSC := Lib.hid hszC; have HBC := Lib.hid hbC0
       have MC : Hid (wC.heap[bt]? = some (.cells #[.string x.1.name, .slice (some ⟨ga, 0, none⟩) x.1.args.length cx, .int .i64 x.1.stamp] 47 (0, 0))) := (hothC bt HLA.out.2.2.2).trans hmbB
       have hlong := longest_any x l' qb o c wC (by have := HL2.out; have := HMC.out.2; have := HLC.out; have := HGB.out; omega)
        (fun j h => by
         obtain ⟨e0, e1, e2⟩ := (HE6.out j h).on HQB.out HBB.out;have hne : qb ≠ ga := by have := (OWN5.out _ (List.getElem_mem HH0.out)).1; have := HE5.out.1; omega
         simp only [HasRow, World.cell?, hothC qb hne]
         exact ⟨e0, e1, e2⟩) (by rw [hszC]; exact Nat.lt_of_lt_of_le HQB.out HBB.out.size)
        (fun y hy => by obtain ⟨fa, fc, -, e, -⟩ := (HE7.out y hy).1.form; exact ⟨fa, _, fc, e⟩)
       rw [HL2.out] at hlong;obtain ⟨st, hst⟩ : ∃ st, longZ x.1.stamp (x :: l') = st := ⟨_, rfl⟩;rw [hst] at hlong;have HST := Lib.hid hst;have HLO := Lib.hid hlong;have HBTC : Hid (bt < wC.heap.size) := (Array.getElem?_eq_some_iff.1 MC.out).1;clear hb hu hmbB hwC hpC hothC hszC hbC0 hlong hst p1 q0 y0 y1 y2 y3 z0 z1 z2 z3 hfz k6 k7;go_wp2_with fail
       refine HLO.out.mono ?_;clear HLO;rintro e wD ⟨rfl, hbD⟩;have MD : Hid (wD.heap[bt]? = some (.cells #[.string x.1.name, .slice (some ⟨ga, 0, none⟩) x.1.args.length cx, .int .i64 x.1.stamp] 47 (0, 0))) := (hbD.block bt HBTC.out).trans MC.out;have HBD := Lib.hid hbD;have y2 := cell_of_block' (i := 2) MD.out _ rfl;have z2 := frozen_of_row wD bt 2 _ _ MD.out;clear hbD;go_upto_region 12 with fail
       obtain ⟨wE, hwE⟩ : ∃ z, wD.setCell ⟨bt, 2, none⟩ (.int .i64 st) = z := ⟨_, rfl⟩;rw [hwE];have hothE : ∀ b, b ≠ bt → wE.heap[b]? = wD.heap[b]? := fun b hb => by rw [← hwE]; exact Below.heap_setCell _ _ _ _ (by simpa using hb)
       have hmE : wE.heap[bt]? = some (.cells #[.string x.1.name, .slice (some ⟨ga, 0, none⟩) x.1.args.length cx, .int .i64 st] 47 (0, 0)) := by rw [← hwE]; exact heap_setCell_same _ _ _ _ _ _ MD.out
       have hszE : wE.heap.size = wD.heap.size := by rw [← hwE]; simp [World.setCell]
       have hosE : wE.os = wD.os ∧ wE.tape = wD.tape ∧ wE.output = wD.output := by rw [← hwE]; exact ⟨rfl, rfl, rfl⟩
       have x0 := cell_of_block' (i := 0) hmE _ rfl;have x1 := cell_of_block' (i := 1) hmE _ rfl;have x2 := cell_of_block' (i := 2) hmE _ rfl;have dF := below_alloc wE (.cells #[.string x.1.name, .slice (some ⟨ga, 0, none⟩) x.1.args.length cx, .int .i64 st] 47)
       have hkF : ∀ b, b < wr.heap.size → (wE.alloc (.cells #[.string x.1.name, .slice (some ⟨ga, 0, none⟩) x.1.args.length cx, .int .i64 st] 47)).heap[b]? = wC.heap[b]? := fun b hb => by
        have h1 := HBB.out.size; have h2 := HSC.out; have h3 := HBD.out.size
        exact (dF.block b (by omega)).trans ((hothE b (by have := HBT.out; omega)).trans (HBD.out.block b (by omega)))
       have hgas : ga < w3.heap.size := HGA.out.1
       obtain ⟨oa, oc, wG, hrunG, hmG, hgG⟩ := MineS.appendB (K := kdCe) (y := newCel (aggV s n) n x l') (c := fun t => ([.string x.1.name, .slice (some ⟨ga, 0, none⟩) x.1.args.length cx, .int .i64 st] : List Value).getD t undef)
        (OwnK.on hinv.out.out (S' := fun b => (False ∨ w5.heap.size ≤ b) ∧ b < (wE.alloc (.cells #[.string x.1.name, .slice (some ⟨ga, 0, none⟩) x.1.args.length cx, .int .i64 st] 47)).heap.size ∧ (Value.slice na i nc).ownBlock ≠ some b)
         (w' := wE.alloc (.cells #[.string x.1.name, .slice (some ⟨ga, 0, none⟩) x.1.args.length cx, .int .i64 st] 47)) (fun b hb => ⟨hb.1, by have h1 := HBB.out.size; have h2 := HSC.out; have h3 := HBD.out.size; have h4 := dF.size; have := hb.2.1; omega, hb.2.2⟩)
         (fun b hb => by
          have h5 : w5.heap.size ≤ b := by rcases hb.1 with h | h; exact h.elim; exact h
          exact (hkF b hb.2.1).trans ((HOC.out b (by have := H35.out; omega)).trans (HBB.out.block b hb.2.1)))
         (fun b h1 h2 _ => (hkF b h2).trans ((HOC.out b (by have := H35.out; omega)).trans (HBB.out.block b h2)))) (by have h1 := HBB.out.size; have h2 := HSC.out; have h3 := HBD.out.size; have h4 := dF.size; have h5 := hinv.out.size; omega)
        (by rw [List.length_map, List.length_take, Nat.min_eq_left hinv.out.le]; show _ * 48 ≤ _; have := HSL.out; have := HLC.out; have := HGB.out; have := HLT.out; omega) (by rw [List.length_map, List.length_take, Nat.min_eq_left hinv.out.le]; have := HSL.out; have := HLC.out; have := HGB.out; have := HLT.out; omega) (alloc_new' wE _)
        (fun j hj => by
         have hj' : j < 3 := hj
         match j, hj' with
         | 0, _ => rfl
         | 1, _ => rfl
         | 2, _ => rfl) (show kdCe.R _ _ _ _ from ⟨rfl, by show _ = x.2; rw [HE4X.out]; rfl, by show Value.int .i64 st = _; rw [← HST.out]; rfl, ⟨_, _, _, HE4X.out⟩⟩) 40
       rw [List.length_map, List.length_take, Nat.min_eq_left hinv.out.le] at hrunG hmG;have HRUN := Lib.hid hrunG
       have HNEW : Hid (GInv (aggV s n) n LC2 segs w5 (i + 1) (.slice oa (i + 1) oc) wG) := by
        refine ginv_step (o := o) (m := m) (c := c) (ga := ga) (cx := cx) (l' := l') (wB := wB) hinv.out HAP2.out HLT.out (HQ.out HLT.out) HSF.out (fun a ha => Nat.le_trans (OWN5.out a ha).2.1 H35.out.1) (fun a ha => (OWN5.out a ha).2.2.2) HH0.out HE1.out HI6.out HE4.out HE5.out HBB.out
         (by rw [HXE.out HH0.out, HU.out]; exact HUB.out) (fun b hb hne => ?_) ?_ ?_ ?_ ?_ ?_
        ·rw [← HPC.out]
         exact (hgG.block b (by have h1 := HBB.out.size; have h2 := HSC.out; have h3 := HBD.out.size; have h4 := dF.size; omega) (Ne.symm hne)).trans (hkF b hb)
        ·exact hgG.os.trans (dF.os.trans (hosE.1.trans (HBD.out.os.trans (HBC.out.os.trans HBB.out.os))))
        ·exact hgG.tape.trans (dF.tape.trans (hosE.2.1.trans (HBD.out.tape.trans (HBC.out.tape.trans HBB.out.tape))))
        ·exact hgG.output.trans (dF.output.trans (hosE.2.2.trans (HBD.out.output.trans (HBC.out.output.trans HBB.out.output))))
        ·have h1 := HBB.out.size; have h2 := HSC.out; have h3 := HBD.out.size; have h4 := dF.size; have h5 := hgG.size; omega
        ·rw [HXE.out HH0.out]; exact hmG
       clear hwE hothE hmE hszE hosE dF hkF hgas hrunG hmG hgG y2 z2;have hi63 : i < 140737488355328 := by have := HLT.out; have := HSL.out; have := HLC.out; have := HGB.out; omega
       go_wp2_with (at_builtin; refine wpList_append_by rfl _ _ _ rfl rfl rfl HRUN.out ?_; clear HRUN)
       go_roundw
       case rel => exact ⟨i + 1, by go_num, HNEW⟩
       case measure => have := HLT.out; simp [intOf]; omega
      ·have hie : i = segs.length := by have := hinv.out.le; omega
       subst hie;have hob := hinv.out.out;rw [List.take_length] at hob;have hol : (segs.map (newOf (aggV s n) n (LC2.map (·.1)))).length = segs.length := List.length_map _;have hkw : Below w.heap.size w wr := ⟨hinv.out.os.trans B5.out.os, hinv.out.tape.trans B5.out.tape, hinv.out.output.trans B5.out.output, Nat.le_trans B5.out.size hinv.out.size, fun b hb => (hinv.out.keep b (Nat.lt_of_lt_of_le hb B5.out.size) (HNIV.out b (.inl (by have := HGB.out; have := B2.out.size; omega)))).trans (B5.out.block b hb)⟩
       have hgis : ∀ G : List Ro, G.Perm (segs.map fun q => (newOf (aggV s n) n (LC2.map (·.1)) q).1) → G.Pairwise (fun a b => ¬ cmpRo b a < 0) → GroupIs s n l G := fun G h1 h2 =>
        ⟨R, LC2.map (·.1), gb, segs, HM.out, by rw [HFIL.out, List.map_map]; exact HP2.out.map _, HS'.out.imp (fun h => by omega), HSEG.out, h1, h2⟩
       have HGIS := Lib.hid hgis; have HKW := Lib.hid hkw; have HOL := Lib.hid hol; have HOB := Lib.hid hob
       have k1 : decide ((segs.length : Int) < (segs.length : Int)) = false := decide_eq_false (by omega);have k2 : decide (segs.length < segs.length) = false := decide_eq_false (by omega);clear hgis hkw hol hob hlt
       by_cases hz : segs.length = 0
       ·have hse : segs = [] := List.length_eq_zero_iff.1 hz
        have HSE := Lib.hid hse
        have hz0 : ∀ (S' : Nat → Prop) (w' : World), SlG S' w' kdRo.n kdRo.bytes (kdRo.R S' w') ([] : List Ro) (.slice na 0 nc) := fun S' w' => by
         have h := slg_own0 (β := Ro) (S' := S') (n := kdRo.n) (bytes := kdRo.bytes) (R := kdRo.R S' w') HOB.out (by rw [HOL.out]; exact hz) w';rw [hz] at h;exact h
        have HZ0 := Lib.hid hz0;rw [hz];clear hz hse k1 k2 hz0;go_wp2_with fail
        refine (AnyF.slices_SortFunc_none Try.sortRow na nc _ _).mono ?_;rintro e w6 ⟨rfl, rfl⟩;go_wp2_with fail
        go_ret
        exact ⟨HKW.out, [], _, rfl, fun _ => rfl, fun _ _ => by rw [Int.toNat_natCast]; exact HGIS.out [] (by rw [HSE.out]; exact List.Perm.refl _) List.Pairwise.nil, HZ0.out _ _⟩
       ·have hne : segs.map (newOf (aggV s n) n (LC2.map (·.1))) ≠ [] := fun e => hz (by rw [← HOL.out, e]; rfl)
        obtain ⟨og, ocap, cs, hv, hog, hoc, hoh, hocs, hoel⟩ := OwnK.look HOB.out (by rw [HOL.out]; omega);rw [HOL.out] at hv
        injection hv with hv1 hv2 hv3
        subst hv1;have hOg : og < wr.heap.size := (Array.getElem?_eq_some_iff.1 hoh).1
        have hce : CelAt cs (segs.map (newOf (aggV s n) n (LC2.map (·.1)))) := by
         refine ⟨by rw [hocs]; exact Nat.mul_le_mul_right _ hoc, fun j hj t ht => ?_⟩;obtain ⟨c, hc, hR⟩ := hoel j hj;obtain ⟨h0, h1, h2, -⟩ := (show c 0 = _ ∧ c 1 = _ ∧ c 2 = _ ∧ _ from hR);have h3 := hc t ht;have h3' : cs[j * 3 + t]? = some (c t) := h3;rw [h3']
         match t, ht with
         | 0, _ => rw [h0]; rfl
         | 1, _ => rw [h1]; rfl
         | 2, _ => rw [h2]; rfl
        have hSr : ∀ k, (∃ cc ∈ LC2, Iv cc k) → k < wr.heap.size ∧ k ≠ og := fun k hk => by
         obtain ⟨cc, hcc, h1, h2⟩ := hk;have h3 := (OWN5.out cc hcc).2.1;have h4 := H35.out.1;exact ⟨by have := hinv.out.size; omega, by omega⟩
        have hrep : ∀ y ∈ segs.map (newOf (aggV s n) n (LC2.map (·.1))), RepRo (fun k => ∃ cc ∈ LC2, Iv cc k) wr y.1 (.string y.1.name) y.2 (.int .i64 y.1.stamp) := fun y hy => by
         obtain ⟨q, hq, rfl⟩ := List.mem_map.1 hy;obtain ⟨j, hj, rfl⟩ := List.getElem_of_mem hq;exact RepRo.on (fun b hb => by obtain ⟨p, hp, -, -, h⟩ := hb; exact ⟨_, List.getElem_mem hp, h⟩) (fun _ _ => rfl) (hinv.out.done j hj hj)
        have hsort := sortRow_any _ hne cmpRo ord_cmpRo 40 #[] og nc cs wr (fun k => ∃ cc ∈ LC2, Iv cc k) (fun args w => by kernel_rfl) hoh hce (by rw [HOL.out]; have := HSL.out; have := HLC.out; have := HGB.out; omega) hSr hrep
         (fun x y W hW hx hy => cmpRo_any x.1 y.1 _ W _ _ _ _ _ _ (fun k hk => Nat.lt_of_lt_of_le (hSr k hk).1 hW.size) hx hy)
        rw [HOL.out] at hsort;have HSRT := Lib.hid hsort; have HSR := Lib.hid hSr; have HREP := Lib.hid hrep; have HOG : Hid (w5.heap.size ≤ og ∧ og < wr.heap.size ∧ ocap = nc ∧ segs.length ≤ nc) := ⟨hog, hOg, hv3.symm, by rw [hv3]; have := hoc; rw [HOL.out] at this; exact this⟩
        clear hne hog hoc hoh hocs hoel hOg hce hSr hrep hsort hv2 hv3 hz;go_wp2_with fail
        refine HSRT.out.mono ?_;clear HSRT;rintro e w6 ⟨rfl, L6, cur', hp6, hs6, hh6, hcz6, hce6, hbe6⟩;have hl6 : L6.length = segs.length := by rw [hp6.length_eq, HOL.out]
        have HFIN : Hid (GroupPost s (n : Int) l w (.returned (.slice (some ⟨og, 0, none⟩) segs.length nc)) w6) := by
         refine ⟨HKW.out.trans (hbe6.below (by have := HOG.out.1; have := B5.out.size; omega) HKW.out.size), L6.map (·.1), _, rfl, fun h => ?_, fun _ _ => ?_, ?_⟩
         ·rcases h with h | h
          ·exact absurd HGOOD.out h
          ·have := HN1.out; omega
         ·rw [Int.toNat_natCast]
          refine HGIS.out _ ?_ ?_
          ·have h := hp6.map (·.1)
           rw [List.map_map] at h;exact h
          ·rw [List.pairwise_map]
           exact hs6.imp fun h => by omega
         ·refine ⟨some ⟨og, 0, none⟩, og, 0, nc, by rw [List.length_map, hl6], by rw [List.length_map, hl6]; exact HOG.out.2.2.2, by rw [List.length_map, hl6]; show _ * 48 ≤ _; have := HSL.out; have := HLC.out; have := HGB.out; omega, fun _ => rfl, fun _ => ⟨by have := HOG.out.1; have := B5.out.size; omega, (Array.getElem?_eq_some_iff.1 hh6).1⟩, fun j hj => ?_⟩
          rw [List.length_map] at hj;rw [List.getElem_map];have h3 := hce6.2 j hj;refine ⟨fun t => ([.string L6[j].1.name, L6[j].2, .int .i64 L6[j].1.stamp] : List Value).getD t undef, fun t ht => ?_, RepRo.on (fun b hb => ?_) (fun b hb => hbe6.block b (HSR.out b hb).1 (HSR.out b hb).2) (HREP.out L6[j] (hp6.mem_iff.1 (List.getElem_mem hj)))⟩
          ·rw [Nat.zero_add]
           have h4 := h3 t ht
           match t, ht with
           | 0, _ => exact cell_of_block' hh6 _ h4
           | 1, _ => exact cell_of_block' hh6 _ h4
           | 2, _ => exact cell_of_block' hh6 _ h4
          ·refine ⟨?_, Nat.lt_of_lt_of_le (HSR.out b hb).1 hbe6.size⟩
           obtain ⟨cc, hcc, h1, -⟩ := hb;have h5 := (OWN5.out cc hcc).1;have h6 := HGB.out.1; have h7 := B2.out.size
           omega
        clear hp6 hs6 hh6 hcz6 hce6 hbe6 hl6;go_wp2_with fail
        go_ret
        exact HFIN.out
end Go.Proofs.Ytpnaegohjbaggaa
