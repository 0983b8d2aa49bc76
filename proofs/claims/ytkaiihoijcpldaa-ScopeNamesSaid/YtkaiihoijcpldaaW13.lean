/-
  scope's 'all': are all variables of terms in a set?
-/
import Derived.Test.YtkaiihoijcpldaaW12
import Derived.Test.YtkaiihoijcpldaaW11
import Derived.Test.YtkaiihoijcpldaaW01
import Derived.Test.YtkaiihoijcpldaaW03
import Derived.RangeFuncCalls
import Derived.Deep.RegionHeld3
namespace Go.Proofs.Ytkaiihoijcpldaa
open Go.RowKit Go.Shelf

attribute [local go_sem] Oper.semAt_some

theorem mem_names {S : Nat → Prop} {w : World} {L : List Tm} {v : Value} (h : RepMs S w L v) {s : ByteArray} (hs : s ∈ varsL L) : (⟨s, repM_name_le h s hs⟩ : Nm) ∈ namesL L :=
  List.mem_map.2 ⟨s, hs, by rw [nm, dif_pos (repM_name_le h s hs)]⟩
theorem of_mem_names {S : Nat → Prop} {w : World} {L : List Tm} {v : Value} (h : RepMs S w L v) {y : Nm} (hy : y ∈ namesL L) : y.1 ∈ varsL L := by
  obtain ⟨s, hs, rfl⟩ := List.mem_map.1 hy
  rw [nm_of (repM_name_le h s hs)]
  exact hs
theorem all_names {S : Nat → Prop} {w : World} {L : List Tm} {v : Value} (h : RepMs S w L v) {l : List ByteArray} (ha : ∀ y ∈ namesL L, inB l y.1 = true) : (varsL L).all (inB l) = true :=
  List.all_eq_true.2 fun _s hs => ha _ (mem_names h hs)
theorem not_all_names {S : Nat → Prop} {w : World} {L : List Tm} {v : Value} (h : RepMs S w L v) {l : List ByteArray} {pre : List Nm} (hp : pre <+: namesL L) (ha : ∃ y ∈ pre, inB l y.1 = false) : (varsL L).all (inB l) = false := by
  obtain ⟨y, hy, he⟩ := ha
  rw [List.all_eq_false]
  exact ⟨y.1, of_mem_names h (hp.subset hy), by rw [he]; decide⟩

set_option maxRecDepth 100000 in
set_option maxHeartbeats 2000000 in
theorem all_in (b n : Nat) (l : List ByteArray) (L : List Tm) (w : World) (a : Option Addr) (len cap : Nat) (hset : SetAt w b n l) (hrep : RepMs (fun k => k < w.heap.size) w L (.slice a len cap)) :
    CallsIn Fence.wide 3 Try.prog 46 #[.map (some b), .slice a len cap] w fun e W' => e = .returned (.bool ((varsL L).all (inB l))) ∧ Below w.heap.size w W' := by
  have h1 : 1 ≤ 3 := by omega
  refine callsIn_of_wp_marks Try.func46 rfl trivial ?_ rfl
  simp only [Try.ntmps46, List.size_toArray, List.length_cons, List.length_nil, Nat.reduceAdd, Nat.reduceSub, Array.replicate_succ, Array.replicate_zero, List.push_toArray, List.append_toArray, List.nil_append, List.cons_append]
  gi_wp2_with ((try refine ⟨trivial, ?_⟩); gi_at_call 32; refine (variables_in Fence.wide _ trivial rfl _ _ _ _).mono ?_; rintro e w' ⟨rfl, rfl⟩)
  have c0 := cell_new1 w (.map (some b)) 75
  have c1 := cell_new1 (w.alloc (.cells #[.map (some b)] 75)) (.bool false) 4
  have c2 := cell_new1 ((w.alloc (.cells #[.map (some b)] 75)).alloc (.cells #[.bool false] 4)) (.slice a len cap) 36
  simp only [World.size_alloc] at c1 c2
  have hB0 : Below w.heap.size w (((w.alloc (.cells #[.map (some b)] 75)).alloc (.cells #[.bool false] 4)).alloc (.cells #[.slice a len cap] 36)) := (((Below.refl _ w).alloc (Nat.le_refl _) _).alloc (by simp) _).alloc (by simp; omega) _
  have d0 := (cell_alloc1 (.cells #[.slice a len cap] 36) (cell_alloc1 (.cells #[.bool false] 4) c0.1))
  have d1 := cell_alloc1 (.cells #[.slice a len cap] 36) c1.1
  have d1f := frozen_alloc1 (.cells #[.slice a len cap] 36) c1.1 c1.2
  have hsz : (((w.alloc (.cells #[.map (some b)] 75)).alloc (.cells #[.bool false] 4)).alloc (.cells #[.slice a len cap] 36)).heap.size = w.heap.size + 3 := by simp
  have c2c := c2.1
  clear c0 c1 c2
  generalize (((w.alloc (.cells #[.map (some b)] 75)).alloc (.cells #[.bool false] 4)).alloc (.cells #[.slice a len cap] 36)) = W3 at *
  refine wpIn_rangeFunc_ownG (F := Fence.wide) (n := 3) rfl h1 (gf := 49) (lb := #[.pointer (some ⟨w.heap.size + 1 + 1, 0, none⟩)]) rfl trivial (enters_of Try.func49 (by kernel_rfl) rfl)
    (vars_stops Fence.wide rfl 2 trivial trivial rfl (w.heap.size + 1 + 1) w.heap.size W3.heap.size L _ W3 (by omega) hB0.size (Nat.le_refl _) c2c (RepMs.on (S' := SK w.heap.size W3.heap.size W3) (fun _ h => .inl h) (fun k hk => hB0.block k hk) hrep)) KpD.trans (fun W l o o' hl hW ho _ => KpD.putObj W l o o' (by omega) hW ho) (Below.refl _ _) (fun _ => by rfl)
    (fun pre W => ((∀ y ∈ pre, inB l y.1 = true) ∧ W.cell? ⟨w.heap.size, 0, none⟩ = some (.map (some b)) ∧ W.cell? ⟨w.heap.size + 1, 0, none⟩ = some (.bool false) ∧ W.frozen? ⟨w.heap.size + 1, 0, none⟩ = false) ∧ Below w.heap.size w W)
    (fun c pre W => (c = .ret ∧ (∃ y ∈ pre, inB l y.1 = false) ∧ W.cell? ⟨w.heap.size + 1, 0, none⟩ = some (.bool false)) ∧ Below w.heap.size w W)
    (OwnFrom.and (Own.from (fun s A B row hs hg hr => ⟨hs.1, cell_kept hs.2.1 hg hr, cell_kept hs.2.2.1 hg hr, (frozen_kept hs.2.2.1 hg hr).trans hs.2.2.2⟩) _) (ownFrom_below (Nat.le_refl _) (by omega)))
    (fun c => OwnFrom.and (Own.from (fun s A B row hs hg hr => ⟨hs.1, hs.2.1, cell_kept hs.2.2 hg hr⟩) _) (ownFrom_below (Nat.le_refl _) (by omega)))
    ⟨⟨by simp, d0, d1, d1f⟩, hB0⟩
    (fun x => { tmps := #[.map (some b), .slice a len cap, .pointer (some ⟨w.heap.size, 0, none⟩), undef, .pointer (some ⟨w.heap.size + 1, 0, none⟩), .string x.1, .slice a len cap, .func (.func 49) #[] #[.pointer (some ⟨w.heap.size + 1 + 1, 0, none⟩)], .string x.1, undef, undef, undef, undef], defers := [] }) ?assign ?body ?done ?stop
  case assign =>
    intro l x W K hK
    gi_wp2
    exact hK
  case body =>
    rintro l2 pre x W ⟨⟨hp, hcw, hcr, hfr⟩, hB⟩ _
    have HP := Lib.hid hp
    have hh := has_any b n l x.1 W x.2 (hset.on hB)
    clear hp
    obtain ⟨t, ht⟩ : ∃ t, inB l x.1 = t := ⟨_, rfl⟩
    rw [ht] at hh
    have HT := Lib.hid ht
    clear ht
    have HCW := Lib.hid hcw; have HCR := Lib.hid hcr; have HFR := Lib.hid hfr
    clear hcr hfr
    cases t with
    | true =>
      gi_wp2_with ((try refine ⟨trivial, ?_⟩); gi_at_call 33; refine (CallsIn.inRound l2 (callsIn_wide.2 hh)).mono ?_; clear hh; rintro e W' ⟨rfl, hb⟩)
      have hg := grown_of_below hb
      have hrow : ∀ r, (none : Option Nat) = some r → ∃ o : Obj, W.heap[r]? = some o ∧ o.isCells = false := fun r e => by cases e
      refine ⟨KeepsFrom.of_grownBy hg (fun j e => by cases e), (KpD.refl _ _ _).of_below hb hB.size, ⟨?_, cell_kept HCW.out hg hrow, cell_kept HCR.out hg hrow, (frozen_kept HCR.out hg hrow).trans HFR.out⟩, hB.trans (hb.mono hB.size)⟩
      intro y hy
      rcases List.mem_append.1 hy with hy | hy
      · exact HP.out y hy
      · rw [List.mem_singleton.1 hy]; exact HT.out
    | false =>
      gi_wp2_with ((try refine ⟨trivial, ?_⟩); gi_at_call 33; refine (CallsIn.inRound l2 (callsIn_wide.2 hh)).mono ?_; clear hh; rintro e W' ⟨rfl, hb⟩; have hcr := cell_kept HCR.out (grown_of_below hb) (fun r e => by cases e); have hfr := (frozen_kept HCR.out (grown_of_below hb) (fun r e => by cases e)).trans HFR.out)
      exact ⟨(KeepsFrom.of_grownBy (grown_of_below hb) (fun j e => by cases e)).trans ((KeepsOthers.setCell _ _ _).from _), ⟨rfl, ⟨x, List.mem_append.2 (.inr (by simp)), HT.out⟩, World.cell?_setCell_same' _ _ _ (by rw [hcr]; rfl)⟩,
        (hB.trans (hb.mono hB.size)).setCell (p := ⟨w.heap.size + 1, 0, none⟩) (by simp) _⟩
  case done =>
    rintro D ys W hD rfl ⟨⟨hall, _, hcr, hfr⟩, hB⟩ hK
    gi_wp2
    have hK' := (KeepsOthers.setCell W ⟨w.heap.size + 1, 0, none⟩ (.bool true)).same D _ hK rfl
    refine ⟨by simp, .inl ⟨_, _, rfl, run_takeDeferred hK', ?_⟩⟩
    have hc5 := cell_kept (World.cell?_setCell_same' W ⟨w.heap.size + 1, 0, none⟩ (.bool true) (by rw [hcr]; rfl)) (grownBy_putObj' _ D (.deferred none)) (fun r e => by cases e; exact ⟨_, hK', rfl⟩)
    refine ⟨.bool true, ?_, ?_, (hB.setCell (p := ⟨w.heap.size + 1, 0, none⟩) (by simp) _).trans (belowK_b (w := w) (Nat.le_refl _) _ D _ _ (by omega) hK' rfl rfl)⟩
    · simp [results, Try.f46, go_sem, hc5]
    · rw [all_names hrep hall]
  case stop =>
    rintro D c pre W hD hpre ⟨⟨rfl, hin, hcr⟩, hB⟩ hK
    gi_wp2
    refine ⟨by simp, .inl ⟨_, _, rfl, run_takeDeferred hK, ?_⟩⟩
    have hc5 := cell_kept hcr (grownBy_putObj' _ D (.deferred none)) (fun r e => by cases e; exact ⟨_, hK, rfl⟩)
    refine ⟨.bool false, ?_, ?_, hB.trans (belowK_b (w := w) (Nat.le_refl _) W D _ _ (by omega) hK rfl rfl)⟩
    · simp [results, Try.f46, go_sem, hc5]
    · rw [not_all_names hrep hpre hin]

theorem all_any (b n : Nat) (l : List ByteArray) (L : List Tm) (S : Nat → Prop) (w : World) (v : Value) (hS : ∀ k, S k → k < w.heap.size) (hset : SetAt w b n l) (hrep : RepMs S w L v) :
    Calls Try.prog 46 #[.map (some b), v] w fun e W' => e = .returned (.bool ((varsL L).all (inB l))) ∧ Below w.heap.size w W' := by
  obtain ⟨a, cap, rfl⟩ := SlG.form hrep
  exact callsIn_wide.1 (all_in b n l L w a _ cap hset (RepMs.on hS (fun _ _ => rfl) hrep))

end Go.Proofs.Ytkaiihoijcpldaa

/-
  scope: from the variables bound at a literal to those bound behind it.
-/
namespace Go.Proofs.Ytkaiihoijcpldaa
open Go.RowKit

/-- The names of those arguments that are variables. -/
def argNames (L : List Tm) : List ByteArray := (L.filter fun t => t.kind == 1).map Tm.name
theorem argNames_take (L : List Tm) {k : Nat} (h : k < L.length) : argNames (L.take (k + 1)) = argNames (L.take k) ++ (if L[k].kind = 1 then [L[k].name] else []) := by
  rw [argNames, List.take_succ_eq_append_getElem h, List.filter_append, List.map_append, ← argNames]
  by_cases hk : L[k].kind = 1
  · rw [if_pos hk, List.filter_cons, if_pos (by simp [hk])]; rfl
  · rw [if_neg hk, List.filter_cons, if_neg (by simp [hk])]; rfl

theorem grownT {a b c : World} {row : Option Nat} (h : a.grownBy b row) (k : b.grownBy c row) : a.grownBy c row :=
  ⟨k.os.trans h.os, k.tape.trans h.tape, k.output.trans h.output, Nat.le_trans h.size k.size, fun i hi hne => (k.block i (Nat.lt_of_lt_of_le hi h.size) hne).trans (h.block i hi hne)⟩
theorem grownT_below {a b c : World} {row : Option Nat} (h : a.grownBy b row) (k : Below b.heap.size b c) : a.grownBy c row :=
  grownT h ⟨k.os, k.tape, k.output, k.size, fun i hi _ => k.block i hi⟩

set_option maxRecDepth 100000 in
set_option maxHeartbeats 1000000 in
theorem addArgs_any (b n : Nat) (l : List ByteArray) (L : List Tm) (S : Nat → Prop) (w : World) (v : Value) (hn : n ≤ 100000) (hS : ∀ k, S k → k < w.heap.size ∧ k ≠ b) (hset : SetAt w b n l) (hrep : RepMs S w L v) :
    Calls Try.prog 58 #[.map (some b), v] w fun e w' => e = .returned (.tuple #[]) ∧ SetAt w' b (n + L.length) (l ++ argNames L) ∧ w.grownBy w' (some b) := by
  have hlb := SlG.bytes hrep
  have HA := Lib.hid hrep; have HS := Lib.hid hS; have HW := Lib.hid hset
  have hbw := hset.lt
  obtain ⟨f0, f1, rfl⟩ := SlG.form hrep
  clear hrep hS hset
  go_enter Try.func58, Try.ntmps58
  go_wp2_with fail
  go_loopw [8] (fun i wr => ∃ k : Nat, k ≤ L.length ∧ i = .int .i64 k ∧ Hid (SetAt wr b (n + k) (l ++ argNames (L.take k))) ∧ Hid (w.grownBy wr (some b))) (fun i _ => L.length - (intOf i).toNat)
  case atStart => exact ⟨0, Nat.zero_le _, rfl, by show SetAt _ _ _ _; simpa [argNames] using HW.out, ⟨rfl, rfl, rfl, Nat.le_refl _, fun _ _ _ => rfl⟩⟩
  case round =>
    obtain ⟨k, hk, rfl, hset, hg⟩ := hrel
    by_cases hl : k < L.length
    · have hA := (RepMs.on (fun _ h => h) (fun j hj => hg.out.block j (HS.out j hj).1 (fun e => (HS.out j hj).2 (Option.some.inj e))) HA.out : RepMs S wr L (.slice f0 L.length f1))
      obtain ⟨-, -, lb, lo, fa, fc, ga, gc, rfl, -, g0, g1, g2, g3, g4, g5, g6, g⟩ := RepMs.at hA k hl
      have HT := Lib.hid (argNames_take L hl)
      have HN := Lib.hid (RepM.bounds g).2
      clear hA g
      generalize L[k] = z at *
      have hba := below_alloc wr (.cells #[.int .i64 z.kind, .string z.name, .int .i64 z.val.kind, .int .i64 z.val.num, .string z.val.text, .slice fa z.val.list.length fc, .slice ga z.args.length gc] 48)
      have hbx := boxM_new wr (.int .i64 z.kind) (.string z.name) (.int .i64 z.val.kind) (.int .i64 z.val.num) (.string z.val.text) (.slice fa z.val.list.length fc) (.slice ga z.args.length gc)
      have HG1 := Lib.hid (grownT_below hg.out hba)
      have HS1 := Lib.hid (hset.out.on hba)
      obtain ⟨e0, e1, e2, e3, e4, e5, e6⟩ := hbx.cells
      clear hba hbx hset hg
      by_cases hkd : z.kind = 1
      · have hk1 : (z.kind == 1) = true := by simp [hkd]
        rw [if_pos hkd] at HT
        clear hkd
        go_wp2_with fail
        clear g0 g1 g2 g3 g4 g5 g6
        generalize wr.alloc (.cells #[.int .i64 z.kind, .string z.name, .int .i64 z.val.kind, .int .i64 z.val.num, .string z.val.text, .slice fa z.val.list.length fc, .slice ga z.args.length gc] 48) = wa at *
        refine (add_any b (n + k) _ z.name wa (by unfold maxLen; omega) HN.out HS1.out).mono ?_
        rintro e w4 ⟨rfl, hs4, hg4⟩
        have HS4 : Hid (SetAt w4 b (n + (k + 1)) (l ++ argNames (L.take (k + 1)))) := by show SetAt _ _ _ _; rw [HT.out, ← List.append_assoc]; exact hs4
        have HG4 := Lib.hid (grownT HG1.out hg4)
        clear hs4 hg4 e0 e1 e2 e3 e4 e5 e6
        go_wp2_with fail
        go_roundw
        case rel => exact ⟨k + 1, hl, by go_num, HS4, HG4.out⟩
        case measure => simp [intOf]; omega
      · have hk1 : (z.kind == 1) = false := by simp [hkd]
        rw [if_neg hkd, List.append_nil] at HT
        clear hkd
        go_wp2_with fail
        go_roundw
        case rel => exact ⟨k + 1, hl, by go_num, by rw [HT.out]; exact HS1.out.mono (by omega), HG1.out⟩
        case measure => simp [intOf]; omega
    · obtain rfl : k = L.length := by omega
      rw [List.take_length] at hset
      go_wp2_with fail
      go_end0
      exact ⟨rfl, hset.out, hg.out⟩

/-- The names bound behind a literal, if all goes well. -/
def goArgs (l : List ByteArray) (z : Li) : List ByteArray := if z.kind = 1 then l ++ argNames z.args else l
def goErr (l : List ByteArray) (z : Li) : Int := if (varsL z.args).all (inB (goArgs l z)) = true then (if z.kind = 4 ∧ inB (goArgs l z) z.name = true then 62 else 0) else 61
def goSet (l : List ByteArray) (z : Li) : List ByteArray := if z.kind = 4 then goArgs l z ++ [z.name] else goArgs l z
/-- How the step over a literal ends. -/
def GoPost (b n : Nat) (l : List ByteArray) (z : Li) (w : World) (e : Ending) (w' : World) : Prop :=
  e = .returned (.int .i64 (goErr l z)) ∧ w.grownBy w' (some b) ∧ (goErr l z = 0 → SetAt w' b (n + z.args.length + 1) (goSet l z))

theorem BoxLi.grown {w w' : World} {k : Nat} {c0 c1 c2 : Value} (h : BoxLi w k c0 c1 c2) {row : Option Nat} (hg : w.grownBy w' row) (hne : some k ≠ row) : BoxLi w' k c0 c1 c2 := (hg.block k h.lt hne).trans h

set_option maxRecDepth 100000 in
set_option maxHeartbeats 1000000 in
theorem goOn_any (b n : Nat) (l : List ByteArray) (z : Li) (S : Nat → Prop) (w : World) (c0 c1 c2 : Value) (hn : n ≤ 100000) (hlen : z.args.length ≤ 8) (hS : ∀ k, S k → k < w.heap.size ∧ k ≠ b) (hset : SetAt w b n l) (hrep : RepLi S w z c0 c1 c2) :
    Calls Try.prog 45 #[.map (some b), .agg #[c0, c1, c2]] w (GoPost b n l z w) := by
  have hbw := hset.lt
  have HR := Lib.hid hrep; have HS := Lib.hid hS; have HW := Lib.hid hset; have HN := Lib.hid hrep.2.2.2.1
  obtain ⟨ga, gc, rfl, rfl, rfl⟩ := RepLi.form hrep
  clear hrep hS hset
  by_cases hk1 : z.kind = 1
  · have hkb : (z.kind == 1) = true := by simp [hk1]
    have hkc : (z.kind == 4) = false := by simp [hk1]
    have HGA : Hid (goArgs l z = l ++ argNames z.args) := by show _ = _; rw [goArgs, if_pos hk1]
    have HE : Hid (goErr l z = if (varsL z.args).all (inB (l ++ argNames z.args)) = true then 0 else 61) := by show _ = _; rw [goErr, HGA.out, if_neg (show ¬ (z.kind = 4 ∧ _) from fun h => by omega)]
    have HGS : Hid (goSet l z = l ++ argNames z.args) := by show _ = _; rw [goSet, if_neg (by omega), HGA.out]
    clear hk1
    go_enter Try.func45, Try.ntmps45
    go_wp2_with fail
    have x0 := boxLi_new w (.int .i64 z.kind) (.string z.name) (.slice ga z.args.length gc)
    have d0 := below_alloc w (.cells #[.int .i64 z.kind, .string z.name, .slice ga z.args.length gc] 42)
    generalize w.alloc (.cells #[.int .i64 z.kind, .string z.name, .slice ga z.args.length gc] 42) = w1 at *
    have X1 := Lib.hid x0; have HG1 := Lib.hid (grownT_below (World.grownBy.refl w (some b)) d0); have S1 := Lib.hid (HW.out.on d0)
    have HB1 := Lib.hid d0
    have R1 := Lib.hid (RepMs.on (S' := fun k => k < w.heap.size ∧ k ≠ b) HS.out (fun k hk => d0.block k (HS.out k hk).1) HR.out.2.2.2.2)
    have Z1 := Lib.hid d0.size
    clear d0 x0 HR HS HW
    obtain ⟨e0, e1, e2⟩ := X1.out.cells
    go_wp2_with fail
    refine (addArgs_any b n l z.args (fun k => k < w.heap.size ∧ k ≠ b) w1 _ hn (fun k hk => ⟨Nat.lt_of_lt_of_le hk.1 Z1.out, hk.2⟩) S1.out R1.out).mono ?_
    rintro e w2 ⟨rfl, hs, hg⟩
    have X2 := Lib.hid (X1.out.grown hg (by intro h; cases h; omega)); have HG2 := Lib.hid (grownT HG1.out hg); have S2 := Lib.hid hs; have Z2 := Lib.hid hg.size
    have R2 := Lib.hid (RepMs.on (fun _ h => h) (fun k (hk : k < w.heap.size ∧ k ≠ b) => hg.block k (Nat.lt_of_lt_of_le hk.1 Z1.out) (fun e => hk.2 (Option.some.inj e))) R1.out)
    clear hs hg e0 e1 e2 X1 HG1 S1 R1
    obtain ⟨e0, e1, e2⟩ := X2.out.cells
    go_wp2_with fail
    refine (all_any b (n + z.args.length) (l ++ argNames z.args) z.args (fun k => k < w.heap.size ∧ k ≠ b) w2 _ (fun k hk => Nat.lt_of_lt_of_le hk.1 (Nat.le_trans Z1.out Z2.out)) S2.out R2.out).mono ?_
    rintro e w3 ⟨rfl, hb⟩
    have X2' := Lib.hid (X2.out.on hb); have HG2' := Lib.hid (grownT_below HG2.out hb); have S2' := Lib.hid (S2.out.on hb)
    clear hb
    clear e0 e1 e2
    obtain ⟨e0, e1, e2⟩ := X2'.out.cells
    cases hc : (varsL z.args).all (inB (l ++ argNames z.args)) with
    | false =>
      have HF : Hid (goErr l z = 61) := by show _ = _; rw [HE.out, hc]; rfl
      clear hc
      go_wp2_with fail
      go_ret
      exact ⟨ret_i HF.out.symm, HG2'.out, fun h => by rw [HF.out] at h; cases h⟩
    | true =>
      have HF : Hid (goErr l z = 0) := by show _ = _; rw [HE.out, hc]; rfl
      clear hc
      go_wp2_with fail
      go_ret
      exact ⟨ret_i HF.out.symm, HG2'.out, fun _ => by rw [HGS.out]; exact S2'.out.mono (by omega)⟩
  · have hkb : (z.kind == 1) = false := by simp [hk1]
    have HGA : Hid (goArgs l z = l) := by show _ = _; rw [goArgs, if_neg hk1]
    by_cases hk4 : z.kind = 4
    · have hkc : (z.kind == 4) = true := by simp [hk4]
      have HE : Hid (goErr l z = if (varsL z.args).all (inB l) = true then (if inB l z.name = true then 62 else 0) else 61) := by show _ = _; rw [goErr, HGA.out]; simp only [hk4, true_and]
      have HGS : Hid (goSet l z = l ++ [z.name]) := by show _ = _; rw [goSet, if_pos hk4, HGA.out]
      clear hk1 hk4
      go_enter Try.func45, Try.ntmps45
      go_wp2_with fail
      have x0 := boxLi_new w (.int .i64 z.kind) (.string z.name) (.slice ga z.args.length gc)
      have d0 := below_alloc w (.cells #[.int .i64 z.kind, .string z.name, .slice ga z.args.length gc] 42)
      generalize w.alloc (.cells #[.int .i64 z.kind, .string z.name, .slice ga z.args.length gc] 42) = w1 at *
      have X1 := Lib.hid x0; have HG1 := Lib.hid (grownT_below (World.grownBy.refl w (some b)) d0); have S1 := Lib.hid (HW.out.on d0)
      have HB1 := Lib.hid d0
      have R1 := Lib.hid (RepMs.on (S' := fun k => k < w.heap.size ∧ k ≠ b) HS.out (fun k hk => d0.block k (HS.out k hk).1) HR.out.2.2.2.2)
      have Z1 := Lib.hid d0.size
      clear d0 x0 HR HS HW
      obtain ⟨e0, e1, e2⟩ := X1.out.cells
      go_wp2_with fail
      refine (all_any b (n) (l) z.args (fun k => k < w.heap.size ∧ k ≠ b) w1 _ (fun k hk => Nat.lt_of_lt_of_le hk.1 Z1.out) S1.out R1.out).mono ?_
      rintro e w3 ⟨rfl, hb⟩
      have X1' := Lib.hid (X1.out.on hb); have HG1' := Lib.hid (grownT_below HG1.out hb); have S1' := Lib.hid (S1.out.on hb)
      clear hb
      clear e0 e1 e2
      obtain ⟨e0, e1, e2⟩ := X1'.out.cells
      cases hc : (varsL z.args).all (inB l) with
      | false =>
        have HF : Hid (goErr l z = 61) := by show _ = _; rw [HE.out, hc]; rfl
        clear hc
        go_wp2_with fail
        go_ret
        exact ⟨ret_i HF.out.symm, HG1'.out, fun h => by rw [HF.out] at h; cases h⟩
      | true =>
        have HE2 : Hid (goErr l z = if inB l z.name = true then 62 else 0) := by show _ = _; rw [HE.out, hc]; rfl
        clear hc
        go_wp2_with fail
        refine (has_any b n l z.name w3 HN.out S1'.out).mono ?_
        rintro e w4 ⟨rfl, hb⟩
        have X4 := Lib.hid (X1'.out.on hb); have HG4 := Lib.hid (grownT_below HG1'.out hb); have S4 := Lib.hid (S1'.out.on hb)
        clear hb e0 e1 e2
        obtain ⟨e0, e1, e2⟩ := X4.out.cells
        cases hc : inB l z.name with
        | true =>
          have HF : Hid (goErr l z = 62) := by show _ = _; rw [HE2.out, hc]; rfl
          clear hc
          go_wp2_with fail
          go_ret
          exact ⟨ret_i HF.out.symm, HG4.out, fun h => by rw [HF.out] at h; cases h⟩
        | false =>
          have HF : Hid (goErr l z = 0) := by show _ = _; rw [HE2.out, hc]; rfl
          clear hc
          go_wp2_with fail
          refine (add_any b n l z.name w4 (by unfold maxLen; omega) HN.out S4.out).mono ?_
          rintro e w5 ⟨rfl, hs5, hg5⟩
          have HG5 := Lib.hid (grownT HG4.out hg5); have S5 := Lib.hid hs5
          clear hs5 hg5 e0 e1 e2
          go_wp2_with fail
          go_ret
          exact ⟨ret_i HF.out.symm, HG5.out, fun _ => by rw [HGS.out]; exact S5.out.mono (by omega)⟩
    · have hkc : (z.kind == 4) = false := by simp [hk4]
      have HE : Hid (goErr l z = if (varsL z.args).all (inB l) = true then 0 else 61) := by show _ = _; rw [goErr, HGA.out, if_neg (show ¬ (z.kind = 4 ∧ _) from fun h => hk4 h.1)]
      have HGS : Hid (goSet l z = l) := by show _ = _; rw [goSet, if_neg hk4, HGA.out]
      clear hk1 hk4
      go_enter Try.func45, Try.ntmps45
      go_wp2_with fail
      have x0 := boxLi_new w (.int .i64 z.kind) (.string z.name) (.slice ga z.args.length gc)
      have d0 := below_alloc w (.cells #[.int .i64 z.kind, .string z.name, .slice ga z.args.length gc] 42)
      generalize w.alloc (.cells #[.int .i64 z.kind, .string z.name, .slice ga z.args.length gc] 42) = w1 at *
      have X1 := Lib.hid x0; have HG1 := Lib.hid (grownT_below (World.grownBy.refl w (some b)) d0); have S1 := Lib.hid (HW.out.on d0)
      have HB1 := Lib.hid d0
      have R1 := Lib.hid (RepMs.on (S' := fun k => k < w.heap.size ∧ k ≠ b) HS.out (fun k hk => d0.block k (HS.out k hk).1) HR.out.2.2.2.2)
      have Z1 := Lib.hid d0.size
      clear d0 x0 HR HS HW
      obtain ⟨e0, e1, e2⟩ := X1.out.cells
      go_wp2_with fail
      refine (all_any b (n) (l) z.args (fun k => k < w.heap.size ∧ k ≠ b) w1 _ (fun k hk => Nat.lt_of_lt_of_le hk.1 Z1.out) S1.out R1.out).mono ?_
      rintro e w3 ⟨rfl, hb⟩
      have X1' := Lib.hid (X1.out.on hb); have HG1' := Lib.hid (grownT_below HG1.out hb); have S1' := Lib.hid (S1.out.on hb)
      clear hb
      clear e0 e1 e2
      obtain ⟨e0, e1, e2⟩ := X1'.out.cells
      cases hc : (varsL z.args).all (inB l) with
      | false =>
        have HF : Hid (goErr l z = 61) := by show _ = _; rw [HE.out, hc]; rfl
        clear hc
        go_wp2_with fail
        go_ret
        exact ⟨ret_i HF.out.symm, HG1'.out, fun h => by rw [HF.out] at h; cases h⟩
      | true =>
        have HF : Hid (goErr l z = 0) := by show _ = _; rw [HE.out, hc]; rfl
        clear hc
        go_wp2_with fail
        go_ret
        exact ⟨ret_i HF.out.symm, HG1'.out, fun _ => by rw [HGS.out]; exact S1'.out.mono (by omega)⟩

end Go.Proofs.Ytkaiihoijcpldaa

/-
  printer's small questions: names, what is none, ops, places.
-/
namespace Go.Proofs.Ytkaiihoijcpldaa
open Go.RowKit

set_option maxRecDepth 100000 in
theorem function_any (s : ByteArray) (w : World) : Calls Try.prog 61 #[.string s] w fun e w' => e = .returned (.bool (fnB s)) ∧ Below w.heap.size w w' := by
  have HF : Hid (decide (0 ≤ fnArity (fnOf s)) = fnB s) := rfl
  go_enter Try.func61, Try.ntmps61
  go_wp2_with fail
  refine (arity_any s _).mono ?_
  rintro e w1 ⟨rfl, hb⟩
  go_wp2_with fail
  go_ret
  exact ⟨ret_bool HF.out, hb⟩

set_option maxRecDepth 100000 in
theorem relation_any (s : ByteArray) (w : World) (hs : s.size ≤ maxLen) : Calls Try.prog 51 #[.string s] w fun e w' => e = .returned (.bool (relB s)) ∧ Below w.heap.size w w' := by
  cases h1 : nameB s with
  | false =>
    have HF : Hid (relB s = false) := by show _ = _; simp [relB, h1]
    have H1 := Lib.hid h1; clear h1
    go_enter Try.func51, Try.ntmps51
    go_wp2_with fail
    refine (name_any s _ hs).mono ?_
    rw [H1.out]
    rintro e w1 ⟨rfl, hb⟩
    go_wp2_with fail
    go_ret
    exact ⟨ret_bool HF.out.symm, hb⟩
  | true =>
  cases h2 : fnB s with
  | true =>
    have HF : Hid (relB s = false) := by show _ = _; simp [relB, h1, h2]
    have H1 := Lib.hid h1; have H2 := Lib.hid h2; clear h1 h2
    go_enter Try.func51, Try.ntmps51
    go_wp2_with fail
    refine (name_any s _ hs).mono ?_
    rw [H1.out]
    rintro e w1 ⟨rfl, hb⟩
    go_wp2_with fail
    refine (function_any s _).mono ?_
    rw [H2.out]
    rintro e w2 ⟨rfl, hb2⟩
    go_wp2_with fail
    go_ret
    exact ⟨ret_bool HF.out.symm, Below.step hb hb2⟩
  | false =>
  cases h3 : declB s
  all_goals
    have HF := Lib.hid (show relB s = (!declB s) by simp [relB, h1, h2])
    have HF' := HF.out
    rw [h3] at HF'
    have HG := Lib.hid HF'
    have H1 := Lib.hid h1; have H2 := Lib.hid h2; unfold declB at h3; clear h1 h2 HF HF'
    go_enter Try.func51, Try.ntmps51
    go_wp2_with fail
    refine (name_any s _ hs).mono ?_
    rw [H1.out]
    rintro e w1 ⟨rfl, hb⟩
    go_wp2_with fail
    refine (function_any s _).mono ?_
    rw [H2.out]
    rintro e w2 ⟨rfl, hb2⟩
    go_wp2_with fail
    go_ret
    exact ⟨ret_bool HG.out.symm, Below.step hb hb2⟩

theorem isEmpty_len {α : Type} (l : List α) : l.isEmpty = ((l.length : Int) == 0) := by
  cases l with
  | nil => rfl
  | cons x l => symm; rw [beq_eq_false_iff_ne.2 (by simp; omega)]; rfl
set_option maxRecDepth 100000 in
theorem nothing_any (x : V) (S : Nat → Prop) (w : World) (c0 c1 c2 c3 : Value) (hx : RepG S w x c0 c1 c2 c3) : Calls Try.prog 78 #[.agg #[c0, c1, c2, c3]] w fun e w' => e = .returned (.bool (noneB x)) ∧ Below w.heap.size w w' := by
  obtain ⟨fa, fc, rfl, rfl, rfl, rfl⟩ := hx.form
  clear hx
  cases h0 : (x.kind == 0) with
  | false =>
    have HF : Hid (noneB x = false) := by show _ = _; simp only [noneB, h0, Bool.false_and]
    go_enter Try.func78, Try.ntmps78
    go_wp2_with fail
    go_ret
    exact ⟨ret_bool HF.out.symm, below_alloc _ _⟩
  | true =>
  cases h1 : (x.num == 0) with
  | false =>
    have HF : Hid (noneB x = false) := by show _ = _; simp only [noneB, h0, h1, Bool.false_and, Bool.true_and]
    go_enter Try.func78, Try.ntmps78
    go_wp2_with fail
    go_ret
    exact ⟨ret_bool HF.out.symm, below_alloc _ _⟩
  | true =>
  cases h2 : (x.text.toList.isEmpty) with
  | false =>
    have HF : Hid (noneB x = false) := by show _ = _; simp only [noneB, h0, h1, h2, Bool.false_and, Bool.true_and]
    go_enter Try.func78, Try.ntmps78
    go_wp2_with fail
    go_ret
    exact ⟨ret_bool HF.out.symm, below_alloc _ _⟩
  | true =>
  have h3 := isEmpty_len x.list
  cases h4 : ((x.list.length : Int) == 0) with
  | false =>
    have HF : Hid (noneB x = false) := by show _ = _; simp only [noneB, h0, h1, h2, h3, h4, Bool.true_and]
    clear h3
    go_enter Try.func78, Try.ntmps78
    go_wp2_with fail
    go_ret
    exact ⟨ret_bool HF.out.symm, below_alloc _ _⟩
  | true =>
    have HF : Hid (noneB x = true) := by show _ = _; simp only [noneB, h0, h1, h2, h3, h4, Bool.true_and]
    clear h3
    go_enter Try.func78, Try.ntmps78
    go_wp2_with fail
    go_ret
    exact ⟨ret_bool HF.out.symm, below_alloc _ _⟩

set_option maxRecDepth 100000 in
theorem rightValue_any (x : V) (S : Nat → Prop) (w : World) (c0 c1 c2 c3 : Value) (hS : ∀ k, S k → k < w.heap.size) (hx : RepG S w x c0 c1 c2 c3) : Calls Try.prog 79 #[.agg #[c0, c1, c2, c3]] w fun e w' => e = .returned (.bool (valB x)) ∧ Below w.heap.size w w' := by
  have HX := Lib.hid hx
  obtain ⟨fa, fc, rfl, rfl, rfl, rfl⟩ := hx.form
  clear hx
  cases h0 : rightV 4 x with
  | false =>
    have HF : Hid (valB x = false) := by show _ = _; simp only [valB, h0, Bool.false_and]
    have HR := Lib.hid h0; clear h0
    go_enter Try.func79, Try.ntmps79
    go_wp2_with fail
    have x1 := boxed_new w (.int .i64 x.kind) (.int .i64 x.num) (.string x.text) (.slice fa x.list.length fc)
    have b1 := below_alloc w (.cells #[.int .i64 x.kind, .int .i64 x.num, .string x.text, .slice fa x.list.length fc] 46)
    generalize w.alloc (.cells #[.int .i64 x.kind, .int .i64 x.num, .string x.text, .slice fa x.list.length fc] 46) = w1 at *
    refine (right_any x w1.heap.size w1 _ _ _ _ (Nat.le_refl _) (RepG.on (fun k hk => Nat.lt_of_lt_of_le (hS k hk) b1.size) (fun k hk => b1.block k (hS k hk)) x HX.out)).mono ?_
    rw [HR.out]
    rintro e w2 ⟨rfl, hb2⟩
    obtain ⟨q0, q1, q2, q3⟩ := (x1.on hb2).cells
    go_wp2_with fail
    go_ret
    exact ⟨ret_bool HF.out.symm, Below.step b1 hb2⟩
  | true =>
  cases h1 : (x.kind == 3) with
  | false =>
    have HF : Hid (valB x = true) := by show _ = _; simp only [valB, h0, h1, Bool.false_and, Bool.true_and, Bool.not_false]
    have HR := Lib.hid h0; clear h0
    go_enter Try.func79, Try.ntmps79
    go_wp2_with fail
    have x1 := boxed_new w (.int .i64 x.kind) (.int .i64 x.num) (.string x.text) (.slice fa x.list.length fc)
    have b1 := below_alloc w (.cells #[.int .i64 x.kind, .int .i64 x.num, .string x.text, .slice fa x.list.length fc] 46)
    generalize w.alloc (.cells #[.int .i64 x.kind, .int .i64 x.num, .string x.text, .slice fa x.list.length fc] 46) = w1 at *
    refine (right_any x w1.heap.size w1 _ _ _ _ (Nat.le_refl _) (RepG.on (fun k hk => Nat.lt_of_lt_of_le (hS k hk) b1.size) (fun k hk => b1.block k (hS k hk)) x HX.out)).mono ?_
    rw [HR.out]
    rintro e w2 ⟨rfl, hb2⟩
    obtain ⟨q0, q1, q2, q3⟩ := (x1.on hb2).cells
    go_wp2_with fail
    go_ret
    exact ⟨ret_bool HF.out.symm, Below.step b1 hb2⟩
  | true =>
  cases h2 : fnB x.text
  all_goals
    have HF := Lib.hid (show valB x = (!fnB x.text) by simp only [valB, h0, h1, Bool.true_and])
    have HF' := HF.out
    rw [h2] at HF'
    have HG := Lib.hid HF'
    have H2 := Lib.hid h2
    have HR := Lib.hid h0; clear h0 h2 HF HF'
    go_enter Try.func79, Try.ntmps79
    go_wp2_with fail
    have x1 := boxed_new w (.int .i64 x.kind) (.int .i64 x.num) (.string x.text) (.slice fa x.list.length fc)
    have b1 := below_alloc w (.cells #[.int .i64 x.kind, .int .i64 x.num, .string x.text, .slice fa x.list.length fc] 46)
    generalize w.alloc (.cells #[.int .i64 x.kind, .int .i64 x.num, .string x.text, .slice fa x.list.length fc] 46) = w1 at *
    refine (right_any x w1.heap.size w1 _ _ _ _ (Nat.le_refl _) (RepG.on (fun k hk => Nat.lt_of_lt_of_le (hS k hk) b1.size) (fun k hk => b1.block k (hS k hk)) x HX.out)).mono ?_
    rw [HR.out]
    rintro e w2 ⟨rfl, hb2⟩
    obtain ⟨q0, q1, q2, q3⟩ := (x1.on hb2).cells
    go_wp2_with fail
    refine (function_any x.text _).mono ?_
    rw [H2.out]
    rintro e w3 ⟨rfl, hb3⟩
    go_wp2_with fail
    go_ret
    exact ⟨ret_bool HG.out.symm, Below.step (Below.step b1 hb2) hb3⟩

set_option maxRecDepth 100000 in
theorem reckoning_any (s : ByteArray) (w : World) : Calls Try.prog 81 #[.string s] w fun e w' => e = .returned (.bool (opB s)) ∧ w = w' := by
  cases h0 : (s.toList == [43]) with
  | true =>
    have HF : Hid (opB s = true) := by show _ = _; simp [opB, h0]
    go_enter Try.func81, Try.ntmps81
    go_wp2_with fail
    go_ret
    exact ⟨ret_bool HF.out.symm, rfl⟩
  | false =>
  cases h1 : (s.toList == [45]) with
  | true =>
    have HF : Hid (opB s = true) := by show _ = _; simp [opB, h0, h1]
    go_enter Try.func81, Try.ntmps81
    go_wp2_with fail
    go_ret
    exact ⟨ret_bool HF.out.symm, rfl⟩
  | false =>
  cases h2 : (s.toList == [42]) with
  | true =>
    have HF : Hid (opB s = true) := by show _ = _; simp [opB, h0, h1, h2]
    go_enter Try.func81, Try.ntmps81
    go_wp2_with fail
    go_ret
    exact ⟨ret_bool HF.out.symm, rfl⟩
  | false =>
    have HF : Hid (opB s = false) := by show _ = _; simp only [opB, h0, h1, h2, Bool.false_or]
    go_enter Try.func81, Try.ntmps81
    go_wp2_with fail
    go_ret
    exact ⟨ret_bool HF.out.symm, rfl⟩

set_option maxRecDepth 100000 in
theorem comparing_any (s : ByteArray) (w : World) : Calls Try.prog 66 #[.string s] w fun e w' => e = .returned (.bool (cmpB s)) ∧ w = w' := by
  cases h0 : (s.toList == [61, 61]) with
  | true =>
    have HF : Hid (cmpB s = true) := by show _ = _; simp [cmpB, h0]
    go_enter Try.func66, Try.ntmps66
    go_wp2_with fail
    go_ret
    exact ⟨ret_bool HF.out.symm, rfl⟩
  | false =>
  cases h1 : (s.toList == [33, 61]) with
  | true =>
    have HF : Hid (cmpB s = true) := by show _ = _; simp [cmpB, h0, h1]
    go_enter Try.func66, Try.ntmps66
    go_wp2_with fail
    go_ret
    exact ⟨ret_bool HF.out.symm, rfl⟩
  | false =>
  cases h2 : (s.toList == [60]) with
  | true =>
    have HF : Hid (cmpB s = true) := by show _ = _; simp [cmpB, h0, h1, h2]
    go_enter Try.func66, Try.ntmps66
    go_wp2_with fail
    go_ret
    exact ⟨ret_bool HF.out.symm, rfl⟩
  | false =>
  cases h3 : (s.toList == [60, 61]) with
  | true =>
    have HF : Hid (cmpB s = true) := by show _ = _; simp [cmpB, h0, h1, h2, h3]
    go_enter Try.func66, Try.ntmps66
    go_wp2_with fail
    go_ret
    exact ⟨ret_bool HF.out.symm, rfl⟩
  | false =>
  cases h4 : (s.toList == [62]) with
  | true =>
    have HF : Hid (cmpB s = true) := by show _ = _; simp [cmpB, h0, h1, h2, h3, h4]
    go_enter Try.func66, Try.ntmps66
    go_wp2_with fail
    go_ret
    exact ⟨ret_bool HF.out.symm, rfl⟩
  | false =>
  cases h5 : (s.toList == [62, 61]) with
  | true =>
    have HF : Hid (cmpB s = true) := by show _ = _; simp [cmpB, h0, h1, h2, h3, h4, h5]
    go_enter Try.func66, Try.ntmps66
    go_wp2_with fail
    go_ret
    exact ⟨ret_bool HF.out.symm, rfl⟩
  | false =>
    have HF : Hid (cmpB s = false) := by show _ = _; simp only [cmpB, h0, h1, h2, h3, h4, h5, Bool.false_or]
    go_enter Try.func66, Try.ntmps66
    go_wp2_with fail
    go_ret
    exact ⟨ret_bool HF.out.symm, rfl⟩

set_option maxRecDepth 100000 in
theorem place_any (t : Tm) (S : Nat → Prop) (w : World) (c0 c1 c2 c3 c4 c5 c6 : Value) (ht : RepM S w t c0 c1 c2 c3 c4 c5 c6) : Calls Try.prog 65 #[.agg #[c0, c1, c2, c3, c4, c5, c6]] w fun e w' => e = .returned (.bool (placeB t)) ∧ Below w.heap.size w w' := by
  obtain ⟨fa, fc, ga, gc, rfl, rfl, rfl, rfl, rfl, rfl, rfl⟩ := ht.form
  clear ht
  cases h0 : (t.kind == 1) with
  | true =>
    have HF : Hid (placeB t = true) := by show _ = _; simp only [placeB, h0, Bool.true_or]
    go_enter Try.func65, Try.ntmps65
    go_wp2_with fail
    go_ret
    exact ⟨ret_bool HF.out.symm, below_alloc _ _⟩
  | false =>
  cases h1 : (t.kind == 2) with
  | false =>
    have HF : Hid (placeB t = false) := by show _ = _; simp only [placeB, h0, h1, Bool.false_or, Bool.false_and]
    go_enter Try.func65, Try.ntmps65
    go_wp2_with fail
    go_ret
    exact ⟨ret_bool HF.out.symm, below_alloc _ _⟩
  | true =>
  cases h2 : (t.val.kind == 3) with
  | false =>
    have HF : Hid (placeB t = false) := by show _ = _; simp only [placeB, h0, h1, h2, Bool.false_or, Bool.and_false]
    go_enter Try.func65, Try.ntmps65
    go_wp2_with fail
    go_ret
    exact ⟨ret_bool HF.out.symm, below_alloc _ _⟩
  | true =>
    have HF : Hid (placeB t = true) := by show _ = _; simp only [placeB, h0, h1, h2, Bool.false_or, Bool.true_and]
    go_enter Try.func65, Try.ntmps65
    go_wp2_with fail
    go_ret
    exact ⟨ret_bool HF.out.symm, below_alloc _ _⟩

end Go.Proofs.Ytkaiihoijcpldaa

/-
  printer's rightWithin and rightParts: terms so deep at most.
-/
namespace Go.Proofs.Ytkaiihoijcpldaa
open Go.RowKit

def RightTmAt (d : Nat) : Prop := ∀ (t : Tm) (S : Nat → Prop) (w : World) (c0 c1 c2 c3 c4 c5 c6 : Value), (∀ k, S k → k < w.heap.size) → RepM S w t c0 c1 c2 c3 c4 c5 c6 →
  Calls Try.prog 73 #[.agg #[c0, c1, c2, c3, c4, c5, c6], .int .i64 d] w fun e w' => e = .returned (.bool (rightM d t)) ∧ Below w.heap.size w w'

set_option maxRecDepth 100000 in
set_option maxHeartbeats 1000000 in
theorem parts_of (d : Nat) (h : RightTmAt d) (l : List Tm) (n : Int) (S : Nat → Prop) (w : World) (a : Value) (hS : ∀ k, S k → k < w.heap.size) (ha : RepMs S w l a) :
    Calls Try.prog 80 #[a, .int .i64 n, .int .i64 d] w fun e w' => e = .returned (.bool (listB n n (rightM d) l)) ∧ Below w.heap.size w w' := by
  have HA := Lib.hid ha; have HH := Lib.hid h
  obtain ⟨aa, cap, rfl⟩ := SlG.form ha
  clear ha h
  go_enter Try.func80, Try.ntmps80
  go_wp2_with fail
  have b1 := below_alloc w (.cells #[.int .i64 d] 3)
  have n1 := alloc_new' w (.cells #[.int .i64 d] 3)
  have s1 := World.size_alloc w (.cells #[.int .i64 d] 3)
  generalize w.alloc (.cells #[.int .i64 d] 3) = w1 at *
  have B1 := Lib.hid b1; have N1 := Lib.hid n1; have S1 := Lib.hid s1
  clear b1 n1 s1
  refine (rl_parts l n n (rightM d) _ S w1 _ (fun k hk => Nat.lt_of_lt_of_le (hS k hk) B1.out.size) (RepMs.on (fun _ h => h) (fun k hk => B1.out.block k (hS k hk)) HA.out) ?_).mono ?_
  · intro wr hb x hx fa fc ga gc hr
    have HB := Lib.hid hb; have HR := Lib.hid hr
    have hq : wr.cell? ⟨w.heap.size, 0, none⟩ = some (.int .i64 d) := cell_of_block' ((hb.block w.heap.size (by have := S1.out; omega)).trans N1.out) _ rfl
    have b2 := below_alloc wr (.cells #[.int .i64 x.kind, .string x.name, .int .i64 x.val.kind, .int .i64 x.val.num, .string x.val.text, .slice fa x.val.list.length fc, .slice ga x.args.length gc] 48)
    have hq2 := (b2.cell (p := ⟨w.heap.size, 0, none⟩) (by have := hb.size; have := S1.out; simp; omega)).trans hq
    have B2 := Lib.hid b2
    clear hb hr b2
    go_enter Try.func91, Try.ntmps91
    go_wp2_with fail
    refine (HH.out x S _ _ _ _ _ _ _ _ (fun k hk => Nat.lt_of_lt_of_le (Nat.lt_of_lt_of_le (hS k hk) (Nat.le_trans B1.out.size HB.out.size)) B2.out.size) (RepM.on (fun _ h => h) (fun k hk => B2.out.block k (Nat.lt_of_lt_of_le (hS k hk) (Nat.le_trans B1.out.size HB.out.size))) x HR.out)).mono ?_
    rintro e w3 ⟨rfl, hb3⟩
    go_wp2_with fail
    go_ret
    exact ⟨rfl, Below.step B2.out hb3⟩
  · rintro e w2 ⟨rfl, hb2⟩
    go_wp2_with fail
    go_ret
    exact ⟨rfl, Below.step B1.out hb2⟩

set_option maxRecDepth 100000 in
set_option maxHeartbeats 4000000 in
theorem within_zero : RightTmAt 0 := by
  intro t S w c0 c1 c2 c3 c4 c5 c6 hS ht
  obtain ⟨fa, fc, ga, gc, rfl, rfl, rfl, rfl, rfl, rfl, rfl⟩ := ht.form
  have HF := Lib.hid (rightM_zero t)
  go_enter Try.func73, Try.ntmps73
  go_wp2_with fail
  have x1 := boxM_new w (.int .i64 t.kind) (.string t.name) (.int .i64 t.val.kind) (.int .i64 t.val.num) (.string t.val.text) (.slice fa t.val.list.length fc) (.slice ga t.args.length gc)
  have b1 := below_alloc w (.cells #[.int .i64 t.kind, .string t.name, .int .i64 t.val.kind, .int .i64 t.val.num, .string t.val.text, .slice fa t.val.list.length fc, .slice ga t.args.length gc] 48)
  generalize w.alloc (.cells #[.int .i64 t.kind, .string t.name, .int .i64 t.val.kind, .int .i64 t.val.num, .string t.val.text, .slice fa t.val.list.length fc, .slice ga t.args.length gc] 48) = w1 at *
  have X1 := Lib.hid x1; have B1 := Lib.hid b1
  clear x1 b1
  obtain ⟨p0, p1, p2, p3, p4, p5, p6⟩ := X1.out.cells
  go_ret
  exact ⟨ret_bool HF.out.symm, B1.out⟩

set_option maxRecDepth 100000 in
set_option maxHeartbeats 4000000 in
theorem within_succ (d : Nat) (hd : d ≤ 100) (h : RightTmAt d) : RightTmAt (d + 1) := by
  intro t S w c0 c1 c2 c3 c4 c5 c6 hS ht
  have HV := Lib.hid ht.value; have HL := Lib.hid ht.lst; have HH := Lib.hid h
  have HNS := Lib.hid ht.bounds.2
  obtain ⟨fa, fc, ga, gc, rfl, rfl, rfl, rfl, rfl, rfl, rfl⟩ := ht.form
  have HF0 : Hid (rightM (d + 1) t = if t.kind = 1 then varB t.name && (noneB t.val && t.args.isEmpty)
    else if t.kind = 2 then t.name.toList.isEmpty && (valB t.val && t.args.isEmpty)
    else if t.kind = 3 then noneB t.val && listB (fnArity (fnOf t.name)) (fnArity (fnOf t.name)) (rightM d) t.args
    else if t.kind = 4 then opB t.name && (noneB t.val && listB 2 2 (rightM d) t.args)
    else false) := by cases t; exact rightM_succ _ _ _ _ _
  clear ht h
  rw [show (((d + 1 : Nat)) : Int) = (d : Int) + 1 from by omega]
  have hd1 : decide ((d : Int) + 1 < 1) = false := by simp; omega
  have hd2 : (d : Int) + 1 - 1 = d := by omega
  have hd3 : IntKind.i64.wrap (d : Int) = d := by rw [IntKind.wrap_i64]; omega
  have hie := isEmpty_len t.args
  by_cases e1 : t.kind = 1
  · have HF1 : Hid (rightM (d + 1) t = (varB t.name && (noneB t.val && t.args.isEmpty))) := by show _ = _; rw [HF0.out, if_pos e1]
    have k1 : (t.kind == 1) = true := by simp [e1]
    clear HF0 e1
    cases h1 : varB t.name with
    | false =>
      have HF : Hid (rightM (d + 1) t = false) := by show _ = _; rw [HF1.out, h1, Bool.false_and]
      have H1 := Lib.hid h1; clear h1 HF1 hie
      go_enter Try.func73, Try.ntmps73
      go_wp2_with fail
      have x1 := boxM_new w (.int .i64 t.kind) (.string t.name) (.int .i64 t.val.kind) (.int .i64 t.val.num) (.string t.val.text) (.slice fa t.val.list.length fc) (.slice ga t.args.length gc)
      have b1 := below_alloc w (.cells #[.int .i64 t.kind, .string t.name, .int .i64 t.val.kind, .int .i64 t.val.num, .string t.val.text, .slice fa t.val.list.length fc, .slice ga t.args.length gc] 48)
      generalize w.alloc (.cells #[.int .i64 t.kind, .string t.name, .int .i64 t.val.kind, .int .i64 t.val.num, .string t.val.text, .slice fa t.val.list.length fc, .slice ga t.args.length gc] 48) = w1 at *
      have X1 := Lib.hid x1; have B1 := Lib.hid b1
      clear x1 b1
      obtain ⟨p0, p1, p2, p3, p4, p5, p6⟩ := X1.out.cells
      refine (variable_any t.name _ HNS.out).mono ?_
      rw [H1.out]
      rintro e w2 ⟨rfl, hb⟩
      have X2 := Lib.hid (X1.out.on hb); have B2 := Lib.hid (Below.step B1.out hb)
      clear hb p0 p1 p2 p3 p4 p5 p6
      obtain ⟨p0, p1, p2, p3, p4, p5, p6⟩ := X2.out.cells
      go_wp2_with fail
      go_ret
      exact ⟨ret_bool HF.out.symm, B2.out⟩
    | true =>
    cases h2 : noneB t.val with
    | false =>
      have HF : Hid (rightM (d + 1) t = false) := by show _ = _; rw [HF1.out, h1, h2]; rfl
      have H1 := Lib.hid h1; have HN := Lib.hid h2; clear h1 h2 HF1 hie
      go_enter Try.func73, Try.ntmps73
      go_wp2_with fail
      have x1 := boxM_new w (.int .i64 t.kind) (.string t.name) (.int .i64 t.val.kind) (.int .i64 t.val.num) (.string t.val.text) (.slice fa t.val.list.length fc) (.slice ga t.args.length gc)
      have b1 := below_alloc w (.cells #[.int .i64 t.kind, .string t.name, .int .i64 t.val.kind, .int .i64 t.val.num, .string t.val.text, .slice fa t.val.list.length fc, .slice ga t.args.length gc] 48)
      generalize w.alloc (.cells #[.int .i64 t.kind, .string t.name, .int .i64 t.val.kind, .int .i64 t.val.num, .string t.val.text, .slice fa t.val.list.length fc, .slice ga t.args.length gc] 48) = w1 at *
      have X1 := Lib.hid x1; have B1 := Lib.hid b1
      clear x1 b1
      obtain ⟨p0, p1, p2, p3, p4, p5, p6⟩ := X1.out.cells
      refine (variable_any t.name _ HNS.out).mono ?_
      rw [H1.out]
      rintro e w2 ⟨rfl, hb⟩
      have X2 := Lib.hid (X1.out.on hb); have B2 := Lib.hid (Below.step B1.out hb)
      clear hb p0 p1 p2 p3 p4 p5 p6
      obtain ⟨p0, p1, p2, p3, p4, p5, p6⟩ := X2.out.cells
      go_wp2_with fail
      refine (nothing_any t.val S w2 _ _ _ _ (RepG.on (fun _ h => h) (fun k hk => B2.out.block k (hS k hk)) t.val HV.out)).mono ?_
      rw [HN.out]
      rintro e w3 ⟨rfl, hb⟩
      have X3 := Lib.hid (X2.out.on hb); have B3 := Lib.hid (Below.step B2.out hb)
      clear hb p0 p1 p2 p3 p4 p5 p6
      obtain ⟨p0, p1, p2, p3, p4, p5, p6⟩ := X3.out.cells
      go_wp2_with fail
      go_ret
      exact ⟨ret_bool HF.out.symm, B3.out⟩
    | true =>
    cases h3 : ((t.args.length : Int) == 0)
    all_goals
      have HF := Lib.hid (show rightM (d + 1) t = _ by rw [HF1.out, h1, h2, hie, h3])
      have H1 := Lib.hid h1; have HN := Lib.hid h2; clear h1 h2 HF1 hie
      go_enter Try.func73, Try.ntmps73
      go_wp2_with fail
      have x1 := boxM_new w (.int .i64 t.kind) (.string t.name) (.int .i64 t.val.kind) (.int .i64 t.val.num) (.string t.val.text) (.slice fa t.val.list.length fc) (.slice ga t.args.length gc)
      have b1 := below_alloc w (.cells #[.int .i64 t.kind, .string t.name, .int .i64 t.val.kind, .int .i64 t.val.num, .string t.val.text, .slice fa t.val.list.length fc, .slice ga t.args.length gc] 48)
      generalize w.alloc (.cells #[.int .i64 t.kind, .string t.name, .int .i64 t.val.kind, .int .i64 t.val.num, .string t.val.text, .slice fa t.val.list.length fc, .slice ga t.args.length gc] 48) = w1 at *
      have X1 := Lib.hid x1; have B1 := Lib.hid b1
      clear x1 b1
      obtain ⟨p0, p1, p2, p3, p4, p5, p6⟩ := X1.out.cells
      refine (variable_any t.name _ HNS.out).mono ?_
      rw [H1.out]
      rintro e w2 ⟨rfl, hb⟩
      have X2 := Lib.hid (X1.out.on hb); have B2 := Lib.hid (Below.step B1.out hb)
      clear hb p0 p1 p2 p3 p4 p5 p6
      obtain ⟨p0, p1, p2, p3, p4, p5, p6⟩ := X2.out.cells
      go_wp2_with fail
      refine (nothing_any t.val S w2 _ _ _ _ (RepG.on (fun _ h => h) (fun k hk => B2.out.block k (hS k hk)) t.val HV.out)).mono ?_
      rw [HN.out]
      rintro e w3 ⟨rfl, hb⟩
      have X3 := Lib.hid (X2.out.on hb); have B3 := Lib.hid (Below.step B2.out hb)
      clear hb p0 p1 p2 p3 p4 p5 p6
      obtain ⟨p0, p1, p2, p3, p4, p5, p6⟩ := X3.out.cells
      go_wp2_with fail
      go_ret
      exact ⟨ret_bool HF.out.symm, B3.out⟩
  have k1 : (t.kind == 1) = false := by simp [e1]
  by_cases e2 : t.kind = 2
  · have HF1 : Hid (rightM (d + 1) t = (t.name.toList.isEmpty && (valB t.val && t.args.isEmpty))) := by show _ = _; rw [HF0.out, if_neg e1, if_pos e2]
    have k2 : (t.kind == 2) = true := by simp [e2]
    clear HF0 e1 e2
    cases h1 : t.name.toList.isEmpty with
    | false =>
      have HF : Hid (rightM (d + 1) t = false) := by show _ = _; rw [HF1.out, h1, Bool.false_and]
      clear HF1 hie
      go_enter Try.func73, Try.ntmps73
      go_wp2_with fail
      have x1 := boxM_new w (.int .i64 t.kind) (.string t.name) (.int .i64 t.val.kind) (.int .i64 t.val.num) (.string t.val.text) (.slice fa t.val.list.length fc) (.slice ga t.args.length gc)
      have b1 := below_alloc w (.cells #[.int .i64 t.kind, .string t.name, .int .i64 t.val.kind, .int .i64 t.val.num, .string t.val.text, .slice fa t.val.list.length fc, .slice ga t.args.length gc] 48)
      generalize w.alloc (.cells #[.int .i64 t.kind, .string t.name, .int .i64 t.val.kind, .int .i64 t.val.num, .string t.val.text, .slice fa t.val.list.length fc, .slice ga t.args.length gc] 48) = w1 at *
      have X1 := Lib.hid x1; have B1 := Lib.hid b1
      clear x1 b1
      obtain ⟨p0, p1, p2, p3, p4, p5, p6⟩ := X1.out.cells
      go_ret
      exact ⟨ret_bool HF.out.symm, B1.out⟩
    | true =>
    cases h2 : valB t.val with
    | false =>
      have HF : Hid (rightM (d + 1) t = false) := by show _ = _; rw [HF1.out, h1, h2]; rfl
      have HN := Lib.hid h2; clear h2 HF1 hie
      go_enter Try.func73, Try.ntmps73
      go_wp2_with fail
      have x1 := boxM_new w (.int .i64 t.kind) (.string t.name) (.int .i64 t.val.kind) (.int .i64 t.val.num) (.string t.val.text) (.slice fa t.val.list.length fc) (.slice ga t.args.length gc)
      have b1 := below_alloc w (.cells #[.int .i64 t.kind, .string t.name, .int .i64 t.val.kind, .int .i64 t.val.num, .string t.val.text, .slice fa t.val.list.length fc, .slice ga t.args.length gc] 48)
      generalize w.alloc (.cells #[.int .i64 t.kind, .string t.name, .int .i64 t.val.kind, .int .i64 t.val.num, .string t.val.text, .slice fa t.val.list.length fc, .slice ga t.args.length gc] 48) = w1 at *
      have X1 := Lib.hid x1; have B1 := Lib.hid b1
      clear x1 b1
      obtain ⟨p0, p1, p2, p3, p4, p5, p6⟩ := X1.out.cells
      refine (rightValue_any t.val S _ _ _ _ _ (fun k hk => Nat.lt_of_lt_of_le (hS k hk) B1.out.size) (RepG.on (fun _ h => h) (fun k hk => B1.out.block k (hS k hk)) t.val HV.out)).mono ?_
      rw [HN.out]
      rintro e w2 ⟨rfl, hb⟩
      have X2 := Lib.hid (X1.out.on hb); have B2 := Lib.hid (Below.step B1.out hb)
      clear hb p0 p1 p2 p3 p4 p5 p6
      obtain ⟨p0, p1, p2, p3, p4, p5, p6⟩ := X2.out.cells
      go_wp2_with fail
      go_ret
      exact ⟨ret_bool HF.out.symm, B2.out⟩
    | true =>
    cases h3 : ((t.args.length : Int) == 0)
    all_goals
      have HF := Lib.hid (show rightM (d + 1) t = _ by rw [HF1.out, h1, h2, hie, h3])
      have HN := Lib.hid h2; clear h2 HF1 hie
      go_enter Try.func73, Try.ntmps73
      go_wp2_with fail
      have x1 := boxM_new w (.int .i64 t.kind) (.string t.name) (.int .i64 t.val.kind) (.int .i64 t.val.num) (.string t.val.text) (.slice fa t.val.list.length fc) (.slice ga t.args.length gc)
      have b1 := below_alloc w (.cells #[.int .i64 t.kind, .string t.name, .int .i64 t.val.kind, .int .i64 t.val.num, .string t.val.text, .slice fa t.val.list.length fc, .slice ga t.args.length gc] 48)
      generalize w.alloc (.cells #[.int .i64 t.kind, .string t.name, .int .i64 t.val.kind, .int .i64 t.val.num, .string t.val.text, .slice fa t.val.list.length fc, .slice ga t.args.length gc] 48) = w1 at *
      have X1 := Lib.hid x1; have B1 := Lib.hid b1
      clear x1 b1
      obtain ⟨p0, p1, p2, p3, p4, p5, p6⟩ := X1.out.cells
      refine (rightValue_any t.val S _ _ _ _ _ (fun k hk => Nat.lt_of_lt_of_le (hS k hk) B1.out.size) (RepG.on (fun _ h => h) (fun k hk => B1.out.block k (hS k hk)) t.val HV.out)).mono ?_
      rw [HN.out]
      rintro e w2 ⟨rfl, hb⟩
      have X2 := Lib.hid (X1.out.on hb); have B2 := Lib.hid (Below.step B1.out hb)
      clear hb p0 p1 p2 p3 p4 p5 p6
      obtain ⟨p0, p1, p2, p3, p4, p5, p6⟩ := X2.out.cells
      go_wp2_with fail
      go_ret
      exact ⟨ret_bool HF.out.symm, B2.out⟩
  have k2 : (t.kind == 2) = false := by simp [e2]
  by_cases e3 : t.kind = 3
  · have HF1 : Hid (rightM (d + 1) t = (noneB t.val && listB (fnArity (fnOf t.name)) (fnArity (fnOf t.name)) (rightM d) t.args)) := by show _ = _; rw [HF0.out, if_neg e1, if_neg e2, if_pos e3]
    have k3 : (t.kind == 3) = true := by simp [e3]
    clear HF0 e1 e2 e3 hie
    obtain ⟨ar, har⟩ : ∃ n, fnArity (fnOf t.name) = n := ⟨_, rfl⟩
    have HAR := Lib.hid har
    obtain ⟨pb, hpb⟩ : ∃ b, listB ar ar (rightM d) t.args = b := ⟨_, rfl⟩
    have HPB := Lib.hid hpb
    have HF2 : Hid (rightM (d + 1) t = (noneB t.val && pb)) := by show _ = _; rw [HF1.out, har, hpb]
    clear HF1 har hpb
    cases h2 : noneB t.val with
    | false =>
      have HF : Hid (rightM (d + 1) t = false) := by show _ = _; rw [HF2.out, h2]; rfl
      have HN := Lib.hid h2; clear h2 HF2
      go_enter Try.func73, Try.ntmps73
      go_wp2_with fail
      have x1 := boxM_new w (.int .i64 t.kind) (.string t.name) (.int .i64 t.val.kind) (.int .i64 t.val.num) (.string t.val.text) (.slice fa t.val.list.length fc) (.slice ga t.args.length gc)
      have b1 := below_alloc w (.cells #[.int .i64 t.kind, .string t.name, .int .i64 t.val.kind, .int .i64 t.val.num, .string t.val.text, .slice fa t.val.list.length fc, .slice ga t.args.length gc] 48)
      generalize w.alloc (.cells #[.int .i64 t.kind, .string t.name, .int .i64 t.val.kind, .int .i64 t.val.num, .string t.val.text, .slice fa t.val.list.length fc, .slice ga t.args.length gc] 48) = w1 at *
      have X1 := Lib.hid x1; have B1 := Lib.hid b1
      clear x1 b1
      obtain ⟨p0, p1, p2, p3, p4, p5, p6⟩ := X1.out.cells
      generalize w.heap.size = bt at X1 ⊢
      refine wp_region_factsG (by rfl) 73 (by rfl) (by kernel_rfl) (fun _ i v => (i = 0 → v = .pointer (some ⟨bt, 2, none⟩)) ∧ (i = 1 → v = .agg #[.int .i64 t.val.kind, .int .i64 t.val.num, .string t.val.text, .slice fa t.val.list.length fc]) ∧ (i = 2 → v = .bool false) ∧ (i = 3 → v = .bool false) ∧ (i = 12 → v = .bool false) ∧ (i = 13 → v = .bool false)) (fun w' => Below w1.heap.size w1 w') (Below.drew (Below.refl _ _)) ⟨?s0, ?s1, ?s2, ?s3, ?s4, ?s5, ?s6, ?s7, ?s8, ?s9, ?s10, ?s11, ?s12, ?s13, trivial⟩ ?fin
      case s0 =>
        intro a w' hoff hg hdep K hK
        rw [if_pos (by rfl)]
        have h2 := off_at hoff 2 (v := .pointer (some ⟨bt, 0, none⟩)) (by kernel_rfl) rfl
        go_simp
        exact hK.out _ _ hg ⟨fun _ => rfl, nn, nn, nn, nn, nn⟩ (fun _ _ h => h)
      case s1 =>
        intro a w' hoff hg hdep K hK
        obtain ⟨v0, e0, f0⟩ := hdep 0 _ 43 (by kernel_rfl) rfl rfl
        obtain rfl := f0.1 rfl
        rw [if_pos (by rfl)]
        obtain ⟨q0, q1, q2, q3, q4, q5, q6⟩ := (X1.out.on hg).cells
        go_simp
        exact hK.out _ _ hg ⟨nn, fun _ => rfl, nn, nn, nn, nn⟩ (fun _ _ h => h)
      case s2 =>
        intro a w' hoff hg hdep K hK
        obtain ⟨v1, e1, f1⟩ := hdep 1 _ 44 (by kernel_rfl) rfl rfl
        obtain rfl := f1.2.1 rfl
        rw [if_pos (by rfl)]
        go_simp
        refine (nothing_any t.val S _ _ _ _ _ (RepG.on (fun _ h => h) (fun k hk => (Below.step B1.out hg).block k (hS k hk)) t.val HV.out)).mono ?_
        rw [HN.out]
        rintro e w2 ⟨rfl, hb⟩
        exact hK.out _ _ (Below.step hg hb) ⟨nn, nn, fun _ => rfl, nn, nn, nn⟩ (fun _ _ h => h)
      case s3 =>
        intro a w' hoff hg hdep K hK
        obtain ⟨v2, e2, f2⟩ := hdep 2 _ 45 (by kernel_rfl) rfl rfl
        obtain rfl := f2.2.2.1 rfl
        rw [if_pos (by rfl)]
        go_simp
        exact hK.out _ _ hg ⟨nn, nn, nn, fun _ => rfl, nn, nn⟩ (fun _ _ h => h)
      case s4 =>
        intro a w' hoff hg hdep K hK
        obtain ⟨v3, e3, f3⟩ := hdep 3 _ 46 (by kernel_rfl) rfl rfl
        obtain rfl := f3.2.2.2.1 rfl
        rw [if_neg (by simp [Region.wanted, yielded, e3])]
        exact hK.out _ _ hg ⟨nn, nn, nn, nn, nn, nn⟩ (fun _ _ h => h)
      case s5 =>
        intro a w' hoff hg hdep K hK
        obtain ⟨v3, e3, f3⟩ := hdep 3 _ 46 (by kernel_rfl) rfl rfl
        obtain rfl := f3.2.2.2.1 rfl
        rw [if_neg (by simp [Region.wanted, yielded, e3])]
        exact hK.out _ _ hg ⟨nn, nn, nn, nn, nn, nn⟩ (fun _ _ h => h)
      case s6 =>
        intro a w' hoff hg hdep K hK
        obtain ⟨v3, e3, f3⟩ := hdep 3 _ 46 (by kernel_rfl) rfl rfl
        obtain rfl := f3.2.2.2.1 rfl
        rw [if_neg (by simp [Region.wanted, yielded, e3])]
        exact hK.out _ _ hg ⟨nn, nn, nn, nn, nn, nn⟩ (fun _ _ h => h)
      case s7 =>
        intro a w' hoff hg hdep K hK
        obtain ⟨v3, e3, f3⟩ := hdep 3 _ 46 (by kernel_rfl) rfl rfl
        obtain rfl := f3.2.2.2.1 rfl
        rw [if_neg (by simp [Region.wanted, yielded, e3])]
        exact hK.out _ _ hg ⟨nn, nn, nn, nn, nn, nn⟩ (fun _ _ h => h)
      case s8 =>
        intro a w' hoff hg hdep K hK
        obtain ⟨v3, e3, f3⟩ := hdep 3 _ 46 (by kernel_rfl) rfl rfl
        obtain rfl := f3.2.2.2.1 rfl
        rw [if_neg (by simp [Region.wanted, yielded, e3])]
        exact hK.out _ _ hg ⟨nn, nn, nn, nn, nn, nn⟩ (fun _ _ h => h)
      case s9 =>
        intro a w' hoff hg hdep K hK
        obtain ⟨v3, e3, f3⟩ := hdep 3 _ 46 (by kernel_rfl) rfl rfl
        obtain rfl := f3.2.2.2.1 rfl
        rw [if_neg (by simp [Region.wanted, yielded, e3])]
        exact hK.out _ _ hg ⟨nn, nn, nn, nn, nn, nn⟩ (fun _ _ h => h)
      case s10 =>
        intro a w' hoff hg hdep K hK
        obtain ⟨v3, e3, f3⟩ := hdep 3 _ 46 (by kernel_rfl) rfl rfl
        obtain rfl := f3.2.2.2.1 rfl
        rw [if_neg (by simp [Region.wanted, yielded, e3])]
        exact hK.out _ _ hg ⟨nn, nn, nn, nn, nn, nn⟩ (fun _ _ h => h)
      case s11 =>
        intro a w' hoff hg hdep K hK
        obtain ⟨v3, e3, f3⟩ := hdep 3 _ 46 (by kernel_rfl) rfl rfl
        obtain rfl := f3.2.2.2.1 rfl
        rw [if_neg (by simp [Region.wanted, yielded, e3])]
        exact hK.out _ _ hg ⟨nn, nn, nn, nn, nn, nn⟩ (fun _ _ h => h)
      case s12 =>
        intro a w' hoff hg hdep K hK
        obtain ⟨v3, e3, f3⟩ := hdep 3 _ 46 (by kernel_rfl) rfl rfl
        obtain rfl := f3.2.2.2.1 rfl
        rw [if_pos (by rfl)]
        go_simp
        exact hK.out _ _ hg ⟨nn, nn, nn, nn, fun _ => rfl, nn⟩ (fun _ _ h => h)
      case s13 =>
        intro a w' hoff hg hdep K hK
        obtain ⟨v12, e12, f12⟩ := hdep 12 _ 55 (by kernel_rfl) rfl rfl
        obtain rfl := f12.2.2.2.2.1 rfl
        rw [if_pos (by rfl)]
        go_simp
        exact hK.out _ _ hg ⟨nn, nn, nn, nn, nn, fun _ => rfl⟩ (fun _ _ h => h)
      case fin =>
        intro a w9 hoff hb hf
        obtain ⟨v0, e0, f0⟩ := hf 0 _ 43 rfl rfl
        obtain rfl := f0.1 rfl
        obtain ⟨v1, e1, f1⟩ := hf 1 _ 44 rfl rfl
        obtain rfl := f1.2.1 rfl
        obtain ⟨v2, e2, f2⟩ := hf 2 _ 45 rfl rfl
        obtain rfl := f2.2.2.1 rfl
        obtain ⟨v3, e3, f3⟩ := hf 3 _ 46 rfl rfl
        obtain rfl := f3.2.2.2.1 rfl
        obtain ⟨v4, e4, f4⟩ := hf 4 _ 47 rfl rfl
        obtain ⟨v5, e5, f5⟩ := hf 5 _ 48 rfl rfl
        obtain ⟨v6, e6, f6⟩ := hf 6 _ 49 rfl rfl
        obtain ⟨v7, e7, f7⟩ := hf 7 _ 50 rfl rfl
        obtain ⟨v8, e8, f8⟩ := hf 8 _ 51 rfl rfl
        obtain ⟨v9, e9, f9⟩ := hf 9 _ 52 rfl rfl
        obtain ⟨v10, e10, f10⟩ := hf 10 _ 53 rfl rfl
        obtain ⟨v11, e11, f11⟩ := hf 11 _ 54 rfl rfl
        obtain ⟨v12, e12, f12⟩ := hf 12 _ 55 rfl rfl
        obtain rfl := f12.2.2.2.2.1 rfl
        obtain ⟨v13, e13, f13⟩ := hf 13 _ 4 rfl rfl
        obtain rfl := f13.2.2.2.2.2 rfl
        rw [hoff.sets [(43, .pointer (some ⟨bt, 2, none⟩)), (44, .agg #[.int .i64 t.val.kind, .int .i64 t.val.num, .string t.val.text, .slice fa t.val.list.length fc]), (45, .bool false), (46, .bool false), (47, v4), (48, v5), (49, v6), (50, v7), (51, v8), (52, v9), (53, v10), (54, v11), (55, .bool false), (4, .bool false)] (by kernel_rfl) (by intro p hp; simp only [List.mem_cons, List.not_mem_nil, or_false] at hp; rcases hp with rfl | rfl | rfl | rfl | rfl | rfl | rfl | rfl | rfl | rfl | rfl | rfl | rfl | rfl <;> assumption)]
        clear hoff hf e0 f0 e1 f1 e2 f2 e3 f3 e4 f4 e5 f5 e6 f6 e7 f7 e8 f8 e9 f9 e10 f10 e11 f11 e12 f12 e13 f13
        simp only [List.foldl_cons, List.foldl_nil, List.setIfInBounds_toArray, List.set_cons_zero, List.set_cons_succ]
        go_wp2_with fail
        go_ret
        exact ⟨ret_bool HF.out.symm, Below.step B1.out hb⟩
    | true =>
      have HF : Hid (rightM (d + 1) t = pb) := by show _ = _; rw [HF2.out, h2]; rfl
      have HN := Lib.hid h2; clear h2 HF2
      go_enter Try.func73, Try.ntmps73
      go_wp2_with fail
      have x1 := boxM_new w (.int .i64 t.kind) (.string t.name) (.int .i64 t.val.kind) (.int .i64 t.val.num) (.string t.val.text) (.slice fa t.val.list.length fc) (.slice ga t.args.length gc)
      have b1 := below_alloc w (.cells #[.int .i64 t.kind, .string t.name, .int .i64 t.val.kind, .int .i64 t.val.num, .string t.val.text, .slice fa t.val.list.length fc, .slice ga t.args.length gc] 48)
      generalize w.alloc (.cells #[.int .i64 t.kind, .string t.name, .int .i64 t.val.kind, .int .i64 t.val.num, .string t.val.text, .slice fa t.val.list.length fc, .slice ga t.args.length gc] 48) = w1 at *
      have X1 := Lib.hid x1; have B1 := Lib.hid b1
      clear x1 b1
      obtain ⟨p0, p1, p2, p3, p4, p5, p6⟩ := X1.out.cells
      generalize w.heap.size = bt at X1 ⊢
      refine wp_region_factsG (by rfl) 73 (by rfl) (by kernel_rfl) (fun _ i v => (i = 0 → v = .pointer (some ⟨bt, 2, none⟩)) ∧ (i = 1 → v = .agg #[.int .i64 t.val.kind, .int .i64 t.val.num, .string t.val.text, .slice fa t.val.list.length fc]) ∧ (i = 2 → v = .bool true) ∧ (i = 3 → v = .bool true) ∧ (i = 4 → v = .pointer (some ⟨bt, 6, none⟩)) ∧ (i = 5 → v = .slice ga t.args.length gc) ∧ (i = 6 → v = .pointer (some ⟨bt, 1, none⟩)) ∧ (i = 7 → v = .string t.name) ∧ (i = 8 → v = .int .i64 ar) ∧ (i = 9 → v = .int .i64 ((d : Int) + 1)) ∧ (i = 10 → v = .int .i64 d) ∧ (i = 11 → v = .bool pb) ∧ (i = 12 → v = .bool pb) ∧ (i = 13 → v = .bool pb)) (fun w' => Below w1.heap.size w1 w') (Below.drew (Below.refl _ _)) ⟨?s0, ?s1, ?s2, ?s3, ?s4, ?s5, ?s6, ?s7, ?s8, ?s9, ?s10, ?s11, ?s12, ?s13, trivial⟩ ?fin
      case s0 =>
        intro a w' hoff hg hdep K hK
        rw [if_pos (by rfl)]
        have h2 := off_at hoff 2 (v := .pointer (some ⟨bt, 0, none⟩)) (by kernel_rfl) rfl
        go_simp
        exact hK.out _ _ hg ⟨fun _ => rfl, nn, nn, nn, nn, nn, nn, nn, nn, nn, nn, nn, nn, nn⟩ (fun _ _ h => h)
      case s1 =>
        intro a w' hoff hg hdep K hK
        obtain ⟨v0, e0, f0⟩ := hdep 0 _ 43 (by kernel_rfl) rfl rfl
        obtain rfl := f0.1 rfl
        rw [if_pos (by rfl)]
        obtain ⟨q0, q1, q2, q3, q4, q5, q6⟩ := (X1.out.on hg).cells
        go_simp
        exact hK.out _ _ hg ⟨nn, fun _ => rfl, nn, nn, nn, nn, nn, nn, nn, nn, nn, nn, nn, nn⟩ (fun _ _ h => h)
      case s2 =>
        intro a w' hoff hg hdep K hK
        obtain ⟨v1, e1, f1⟩ := hdep 1 _ 44 (by kernel_rfl) rfl rfl
        obtain rfl := f1.2.1 rfl
        rw [if_pos (by rfl)]
        go_simp
        refine (nothing_any t.val S _ _ _ _ _ (RepG.on (fun _ h => h) (fun k hk => (Below.step B1.out hg).block k (hS k hk)) t.val HV.out)).mono ?_
        rw [HN.out]
        rintro e w2 ⟨rfl, hb⟩
        exact hK.out _ _ (Below.step hg hb) ⟨nn, nn, fun _ => rfl, nn, nn, nn, nn, nn, nn, nn, nn, nn, nn, nn⟩ (fun _ _ h => h)
      case s3 =>
        intro a w' hoff hg hdep K hK
        obtain ⟨v2, e2, f2⟩ := hdep 2 _ 45 (by kernel_rfl) rfl rfl
        obtain rfl := f2.2.2.1 rfl
        rw [if_pos (by rfl)]
        go_simp
        exact hK.out _ _ hg ⟨nn, nn, nn, fun _ => rfl, nn, nn, nn, nn, nn, nn, nn, nn, nn, nn⟩ (fun _ _ h => h)
      case s4 =>
        intro a w' hoff hg hdep K hK
        obtain ⟨v3, e3, f3⟩ := hdep 3 _ 46 (by kernel_rfl) rfl rfl
        obtain rfl := f3.2.2.2.1 rfl
        rw [if_pos (by simp [Region.wanted, yielded, e3])]
        have h2 := off_at hoff 2 (v := .pointer (some ⟨bt, 0, none⟩)) (by kernel_rfl) rfl
        go_simp
        exact hK.out _ _ hg ⟨nn, nn, nn, nn, fun _ => rfl, nn, nn, nn, nn, nn, nn, nn, nn, nn⟩ (fun _ _ h => h)
      case s5 =>
        intro a w' hoff hg hdep K hK
        obtain ⟨v3, e3, f3⟩ := hdep 3 _ 46 (by kernel_rfl) rfl rfl
        obtain rfl := f3.2.2.2.1 rfl
        obtain ⟨v4, e4, f4⟩ := hdep 4 _ 47 (by kernel_rfl) rfl rfl
        obtain rfl := f4.2.2.2.2.1 rfl
        rw [if_pos (by simp [Region.wanted, yielded, e3])]
        obtain ⟨q0, q1, q2, q3, q4, q5, q6⟩ := (X1.out.on hg).cells
        go_simp
        exact hK.out _ _ hg ⟨nn, nn, nn, nn, nn, fun _ => rfl, nn, nn, nn, nn, nn, nn, nn, nn⟩ (fun _ _ h => h)
      case s6 =>
        intro a w' hoff hg hdep K hK
        obtain ⟨v3, e3, f3⟩ := hdep 3 _ 46 (by kernel_rfl) rfl rfl
        obtain rfl := f3.2.2.2.1 rfl
        rw [if_pos (by simp [Region.wanted, yielded, e3])]
        have h2 := off_at hoff 2 (v := .pointer (some ⟨bt, 0, none⟩)) (by kernel_rfl) rfl
        go_simp
        exact hK.out _ _ hg ⟨nn, nn, nn, nn, nn, nn, fun _ => rfl, nn, nn, nn, nn, nn, nn, nn⟩ (fun _ _ h => h)
      case s7 =>
        intro a w' hoff hg hdep K hK
        obtain ⟨v3, e3, f3⟩ := hdep 3 _ 46 (by kernel_rfl) rfl rfl
        obtain rfl := f3.2.2.2.1 rfl
        obtain ⟨v6, e6, f6⟩ := hdep 6 _ 49 (by kernel_rfl) rfl rfl
        obtain rfl := f6.2.2.2.2.2.2.1 rfl
        rw [if_pos (by simp [Region.wanted, yielded, e3])]
        obtain ⟨q0, q1, q2, q3, q4, q5, q6⟩ := (X1.out.on hg).cells
        go_simp
        exact hK.out _ _ hg ⟨nn, nn, nn, nn, nn, nn, nn, fun _ => rfl, nn, nn, nn, nn, nn, nn⟩ (fun _ _ h => h)
      case s8 =>
        intro a w' hoff hg hdep K hK
        obtain ⟨v3, e3, f3⟩ := hdep 3 _ 46 (by kernel_rfl) rfl rfl
        obtain rfl := f3.2.2.2.1 rfl
        obtain ⟨v7, e7, f7⟩ := hdep 7 _ 50 (by kernel_rfl) rfl rfl
        obtain rfl := f7.2.2.2.2.2.2.2.1 rfl
        rw [if_pos (by simp [Region.wanted, yielded, e3])]
        go_simp
        refine (arity_any t.name _).mono ?_
        rw [HAR.out]
        rintro e w2 ⟨rfl, hb⟩
        exact hK.out _ _ (Below.step hg hb) ⟨nn, nn, nn, nn, nn, nn, nn, nn, fun _ => rfl, nn, nn, nn, nn, nn⟩ (fun _ _ h => h)
      case s9 =>
        intro a w' hoff hg hdep K hK
        obtain ⟨v3, e3, f3⟩ := hdep 3 _ 46 (by kernel_rfl) rfl rfl
        obtain rfl := f3.2.2.2.1 rfl
        rw [if_pos (by simp [Region.wanted, yielded, e3])]
        have h1 := off_at hoff 1 (v := .int .i64 ((d : Int) + 1)) (by kernel_rfl) rfl
        go_simp
        exact hK.out _ _ hg ⟨nn, nn, nn, nn, nn, nn, nn, nn, nn, fun _ => rfl, nn, nn, nn, nn⟩ (fun _ _ h => h)
      case s10 =>
        intro a w' hoff hg hdep K hK
        obtain ⟨v3, e3, f3⟩ := hdep 3 _ 46 (by kernel_rfl) rfl rfl
        obtain rfl := f3.2.2.2.1 rfl
        obtain ⟨v9, e9, f9⟩ := hdep 9 _ 52 (by kernel_rfl) rfl rfl
        obtain rfl := f9.2.2.2.2.2.2.2.2.2.1 rfl
        rw [if_pos (by simp [Region.wanted, yielded, e3])]
        go_simp
        exact hK.out _ _ hg ⟨nn, nn, nn, nn, nn, nn, nn, nn, nn, nn, fun _ => rfl, nn, nn, nn⟩ (fun _ _ h => h)
      case s11 =>
        intro a w' hoff hg hdep K hK
        obtain ⟨v3, e3, f3⟩ := hdep 3 _ 46 (by kernel_rfl) rfl rfl
        obtain rfl := f3.2.2.2.1 rfl
        obtain ⟨v5, e5, f5⟩ := hdep 5 _ 48 (by kernel_rfl) rfl rfl
        obtain rfl := f5.2.2.2.2.2.1 rfl
        obtain ⟨v8, e8, f8⟩ := hdep 8 _ 51 (by kernel_rfl) rfl rfl
        obtain rfl := f8.2.2.2.2.2.2.2.2.1 rfl
        obtain ⟨v10, e10, f10⟩ := hdep 10 _ 53 (by kernel_rfl) rfl rfl
        obtain rfl := f10.2.2.2.2.2.2.2.2.2.2.1 rfl
        rw [if_pos (by simp [Region.wanted, yielded, e3])]
        go_simp
        refine (parts_of d HH.out t.args ar S _ _ (fun k hk => Nat.lt_of_lt_of_le (hS k hk) (Below.step B1.out hg).size) (RepMs.on (fun _ h => h) (fun k hk => (Below.step B1.out hg).block k (hS k hk)) HL.out)).mono ?_
        rw [HPB.out]
        rintro e w2 ⟨rfl, hb⟩
        exact hK.out _ _ (Below.step hg hb) ⟨nn, nn, nn, nn, nn, nn, nn, nn, nn, nn, nn, fun _ => rfl, nn, nn⟩ (fun _ _ h => h)
      case s12 =>
        intro a w' hoff hg hdep K hK
        obtain ⟨v3, e3, f3⟩ := hdep 3 _ 46 (by kernel_rfl) rfl rfl
        obtain rfl := f3.2.2.2.1 rfl
        obtain ⟨v11, e11, f11⟩ := hdep 11 _ 54 (by kernel_rfl) rfl rfl
        obtain rfl := f11.2.2.2.2.2.2.2.2.2.2.2.1 rfl
        rw [if_pos (by rfl)]
        go_simp
        exact hK.out _ _ hg ⟨nn, nn, nn, nn, nn, nn, nn, nn, nn, nn, nn, nn, fun _ => rfl, nn⟩ (fun _ _ h => h)
      case s13 =>
        intro a w' hoff hg hdep K hK
        obtain ⟨v12, e12, f12⟩ := hdep 12 _ 55 (by kernel_rfl) rfl rfl
        obtain rfl := f12.2.2.2.2.2.2.2.2.2.2.2.2.1 rfl
        rw [if_pos (by rfl)]
        go_simp
        exact hK.out _ _ hg ⟨nn, nn, nn, nn, nn, nn, nn, nn, nn, nn, nn, nn, nn, fun _ => rfl⟩ (fun _ _ h => h)
      case fin =>
        intro a w9 hoff hb hf
        obtain ⟨v0, e0, f0⟩ := hf 0 _ 43 rfl rfl
        obtain rfl := f0.1 rfl
        obtain ⟨v1, e1, f1⟩ := hf 1 _ 44 rfl rfl
        obtain rfl := f1.2.1 rfl
        obtain ⟨v2, e2, f2⟩ := hf 2 _ 45 rfl rfl
        obtain rfl := f2.2.2.1 rfl
        obtain ⟨v3, e3, f3⟩ := hf 3 _ 46 rfl rfl
        obtain rfl := f3.2.2.2.1 rfl
        obtain ⟨v4, e4, f4⟩ := hf 4 _ 47 rfl rfl
        obtain rfl := f4.2.2.2.2.1 rfl
        obtain ⟨v5, e5, f5⟩ := hf 5 _ 48 rfl rfl
        obtain rfl := f5.2.2.2.2.2.1 rfl
        obtain ⟨v6, e6, f6⟩ := hf 6 _ 49 rfl rfl
        obtain rfl := f6.2.2.2.2.2.2.1 rfl
        obtain ⟨v7, e7, f7⟩ := hf 7 _ 50 rfl rfl
        obtain rfl := f7.2.2.2.2.2.2.2.1 rfl
        obtain ⟨v8, e8, f8⟩ := hf 8 _ 51 rfl rfl
        obtain rfl := f8.2.2.2.2.2.2.2.2.1 rfl
        obtain ⟨v9, e9, f9⟩ := hf 9 _ 52 rfl rfl
        obtain rfl := f9.2.2.2.2.2.2.2.2.2.1 rfl
        obtain ⟨v10, e10, f10⟩ := hf 10 _ 53 rfl rfl
        obtain rfl := f10.2.2.2.2.2.2.2.2.2.2.1 rfl
        obtain ⟨v11, e11, f11⟩ := hf 11 _ 54 rfl rfl
        obtain rfl := f11.2.2.2.2.2.2.2.2.2.2.2.1 rfl
        obtain ⟨v12, e12, f12⟩ := hf 12 _ 55 rfl rfl
        obtain rfl := f12.2.2.2.2.2.2.2.2.2.2.2.2.1 rfl
        obtain ⟨v13, e13, f13⟩ := hf 13 _ 4 rfl rfl
        obtain rfl := f13.2.2.2.2.2.2.2.2.2.2.2.2.2 rfl
        rw [hoff.sets [(43, .pointer (some ⟨bt, 2, none⟩)), (44, .agg #[.int .i64 t.val.kind, .int .i64 t.val.num, .string t.val.text, .slice fa t.val.list.length fc]), (45, .bool true), (46, .bool true), (47, .pointer (some ⟨bt, 6, none⟩)), (48, .slice ga t.args.length gc), (49, .pointer (some ⟨bt, 1, none⟩)), (50, .string t.name), (51, .int .i64 ar), (52, .int .i64 ((d : Int) + 1)), (53, .int .i64 d), (54, .bool pb), (55, .bool pb), (4, .bool pb)] (by kernel_rfl) (by intro p hp; simp only [List.mem_cons, List.not_mem_nil, or_false] at hp; rcases hp with rfl | rfl | rfl | rfl | rfl | rfl | rfl | rfl | rfl | rfl | rfl | rfl | rfl | rfl <;> assumption)]
        clear hoff hf e0 f0 e1 f1 e2 f2 e3 f3 e4 f4 e5 f5 e6 f6 e7 f7 e8 f8 e9 f9 e10 f10 e11 f11 e12 f12 e13 f13
        simp only [List.foldl_cons, List.foldl_nil, List.setIfInBounds_toArray, List.set_cons_zero, List.set_cons_succ]
        go_wp2_with fail
        go_ret
        exact ⟨ret_bool HF.out.symm, Below.step B1.out hb⟩
  have k3 : (t.kind == 3) = false := by simp [e3]
  by_cases e4 : t.kind = 4
  · have HF1 : Hid (rightM (d + 1) t = (opB t.name && (noneB t.val && listB 2 2 (rightM d) t.args))) := by show _ = _; rw [HF0.out, if_neg e1, if_neg e2, if_neg e3, if_pos e4]
    have k4 : (t.kind == 4) = true := by simp [e4]
    clear HF0 e1 e2 e3 e4 hie
    cases h1 : opB t.name with
    | false =>
      have HF : Hid (rightM (d + 1) t = false) := by show _ = _; rw [HF1.out, h1, Bool.false_and]
      have H1 := Lib.hid h1; clear h1 HF1
      go_enter Try.func73, Try.ntmps73
      go_wp2_with fail
      have x1 := boxM_new w (.int .i64 t.kind) (.string t.name) (.int .i64 t.val.kind) (.int .i64 t.val.num) (.string t.val.text) (.slice fa t.val.list.length fc) (.slice ga t.args.length gc)
      have b1 := below_alloc w (.cells #[.int .i64 t.kind, .string t.name, .int .i64 t.val.kind, .int .i64 t.val.num, .string t.val.text, .slice fa t.val.list.length fc, .slice ga t.args.length gc] 48)
      generalize w.alloc (.cells #[.int .i64 t.kind, .string t.name, .int .i64 t.val.kind, .int .i64 t.val.num, .string t.val.text, .slice fa t.val.list.length fc, .slice ga t.args.length gc] 48) = w1 at *
      have X1 := Lib.hid x1; have B1 := Lib.hid b1
      clear x1 b1
      obtain ⟨p0, p1, p2, p3, p4, p5, p6⟩ := X1.out.cells
      refine (reckoning_any t.name _).mono ?_
      rw [H1.out]
      rintro e w2 ⟨rfl, rfl⟩
      go_wp2_with fail
      go_ret
      exact ⟨ret_bool HF.out.symm, B1.out⟩
    | true =>
    cases h2 : noneB t.val with
    | false =>
      have HF : Hid (rightM (d + 1) t = false) := by show _ = _; rw [HF1.out, h1, h2]; rfl
      have H1 := Lib.hid h1; have HN := Lib.hid h2; clear h1 h2 HF1
      go_enter Try.func73, Try.ntmps73
      go_wp2_with fail
      have x1 := boxM_new w (.int .i64 t.kind) (.string t.name) (.int .i64 t.val.kind) (.int .i64 t.val.num) (.string t.val.text) (.slice fa t.val.list.length fc) (.slice ga t.args.length gc)
      have b1 := below_alloc w (.cells #[.int .i64 t.kind, .string t.name, .int .i64 t.val.kind, .int .i64 t.val.num, .string t.val.text, .slice fa t.val.list.length fc, .slice ga t.args.length gc] 48)
      generalize w.alloc (.cells #[.int .i64 t.kind, .string t.name, .int .i64 t.val.kind, .int .i64 t.val.num, .string t.val.text, .slice fa t.val.list.length fc, .slice ga t.args.length gc] 48) = w1 at *
      have X1 := Lib.hid x1; have B1 := Lib.hid b1
      clear x1 b1
      obtain ⟨p0, p1, p2, p3, p4, p5, p6⟩ := X1.out.cells
      refine (reckoning_any t.name _).mono ?_
      rw [H1.out]
      rintro e w2 ⟨rfl, rfl⟩
      go_wp2_with fail
      refine (nothing_any t.val S w1 _ _ _ _ (RepG.on (fun _ h => h) (fun k hk => B1.out.block k (hS k hk)) t.val HV.out)).mono ?_
      rw [HN.out]
      rintro e w2 ⟨rfl, hb⟩
      have X2 := Lib.hid (X1.out.on hb); have B2 := Lib.hid (Below.step B1.out hb)
      clear hb p0 p1 p2 p3 p4 p5 p6
      obtain ⟨p0, p1, p2, p3, p4, p5, p6⟩ := X2.out.cells
      go_wp2_with fail
      go_ret
      exact ⟨ret_bool HF.out.symm, B2.out⟩
    | true =>
      have HF : Hid (rightM (d + 1) t = listB 2 2 (rightM d) t.args) := by show _ = _; rw [HF1.out, h1, h2]; rfl
      have H1 := Lib.hid h1; have HN := Lib.hid h2; clear h1 h2 HF1
      go_enter Try.func73, Try.ntmps73
      go_wp2_with fail
      have x1 := boxM_new w (.int .i64 t.kind) (.string t.name) (.int .i64 t.val.kind) (.int .i64 t.val.num) (.string t.val.text) (.slice fa t.val.list.length fc) (.slice ga t.args.length gc)
      have b1 := below_alloc w (.cells #[.int .i64 t.kind, .string t.name, .int .i64 t.val.kind, .int .i64 t.val.num, .string t.val.text, .slice fa t.val.list.length fc, .slice ga t.args.length gc] 48)
      generalize w.alloc (.cells #[.int .i64 t.kind, .string t.name, .int .i64 t.val.kind, .int .i64 t.val.num, .string t.val.text, .slice fa t.val.list.length fc, .slice ga t.args.length gc] 48) = w1 at *
      have X1 := Lib.hid x1; have B1 := Lib.hid b1
      clear x1 b1
      obtain ⟨p0, p1, p2, p3, p4, p5, p6⟩ := X1.out.cells
      refine (reckoning_any t.name _).mono ?_
      rw [H1.out]
      rintro e w2 ⟨rfl, rfl⟩
      go_wp2_with fail
      refine (nothing_any t.val S w1 _ _ _ _ (RepG.on (fun _ h => h) (fun k hk => B1.out.block k (hS k hk)) t.val HV.out)).mono ?_
      rw [HN.out]
      rintro e w2 ⟨rfl, hb⟩
      have X2 := Lib.hid (X1.out.on hb); have B2 := Lib.hid (Below.step B1.out hb)
      clear hb p0 p1 p2 p3 p4 p5 p6
      obtain ⟨p0, p1, p2, p3, p4, p5, p6⟩ := X2.out.cells
      go_wp2_with fail
      refine (parts_of d HH.out t.args 2 S _ _ (fun k hk => Nat.lt_of_lt_of_le (hS k hk) B2.out.size) (RepMs.on (fun _ h => h) (fun k hk => B2.out.block k (hS k hk)) HL.out)).mono ?_
      rintro e w3 ⟨rfl, hb⟩
      have B3 := Lib.hid (Below.step B2.out hb)
      clear hb
      go_wp2_with fail
      go_ret
      exact ⟨ret_bool HF.out.symm, B3.out⟩
  have k4 : (t.kind == 4) = false := by simp [e4]
  have HF : Hid (rightM (d + 1) t = false) := by show _ = _; rw [HF0.out, if_neg e1, if_neg e2, if_neg e3, if_neg e4]
  clear HF0 e1 e2 e3 e4 hie
  go_enter Try.func73, Try.ntmps73
  go_wp2_with fail
  have x1 := boxM_new w (.int .i64 t.kind) (.string t.name) (.int .i64 t.val.kind) (.int .i64 t.val.num) (.string t.val.text) (.slice fa t.val.list.length fc) (.slice ga t.args.length gc)
  have b1 := below_alloc w (.cells #[.int .i64 t.kind, .string t.name, .int .i64 t.val.kind, .int .i64 t.val.num, .string t.val.text, .slice fa t.val.list.length fc, .slice ga t.args.length gc] 48)
  generalize w.alloc (.cells #[.int .i64 t.kind, .string t.name, .int .i64 t.val.kind, .int .i64 t.val.num, .string t.val.text, .slice fa t.val.list.length fc, .slice ga t.args.length gc] 48) = w1 at *
  have X1 := Lib.hid x1; have B1 := Lib.hid b1
  clear x1 b1
  obtain ⟨p0, p1, p2, p3, p4, p5, p6⟩ := X1.out.cells
  go_ret
  exact ⟨ret_bool HF.out.symm, B1.out⟩

theorem within_any : ∀ d : Nat, d ≤ 100 → RightTmAt d
  | 0, _ => within_zero
  | d + 1, hd => within_succ d (by omega) (within_any d (by omega))

end Go.Proofs.Ytkaiihoijcpldaa
