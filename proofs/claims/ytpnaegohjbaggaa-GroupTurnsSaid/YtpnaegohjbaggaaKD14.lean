/-
  GrAgg, GrLong
-/
import Derived.Test.YtpnaegohjbaggaaKD13
import Derived.Test.YtpnaegohjbaggaaKD08
namespace Go.Proofs.Ytpnaegohjbaggaa
open Go.RowKit
def argN (n : Nat) (x : Cel) : V := x.1.args.getD n (.mk 0 0 ⟨#[]⟩ [])
theorem argN_at {n : Nat} {x : Cel} (h : n < x.1.args.length) : argN n x = x.1.args[n] := by unfold argN; rw [List.getD_eq_getElem?_getD, List.getElem?_eq_getElem h]; rfl
def cmpAt (n : Nat) (x y : Cel) : Int := cmpV (argN n x) (argN n y)
theorem minC_mem (cf : Cel → Cel → Int) : ∀ (l : List Cel) (m : Cel), minC cf m l ∈ m :: l
 | [], m => by simp [minC]
 | y :: l, m => by
  rw [minC];have := minC_mem cf l (if cf y m < 0 then y else m);rcases List.mem_cons.1 this with h | h
  ·rw [h]; split <;> simp
  ·exact List.mem_cons_of_mem _ (List.mem_cons_of_mem _ h)
theorem maxC_mem (cf : Cel → Cel → Int) : ∀ (l : List Cel) (m : Cel), maxC cf m l ∈ m :: l
 | [], m => by simp [maxC]
 | y :: l, m => by
  rw [maxC];have := maxC_mem cf l (if cf y m > 0 then y else m);rcases List.mem_cons.1 this with h | h
  ·rw [h]; split <;> simp
  ·exact List.mem_cons_of_mem _ (List.mem_cons_of_mem _ h)
def ElAt (S : Nat → Prop) (n : Nat) (y : Cel) (w : World) : Prop := ∀ (c3 : Value) (xb xo xc : Nat), y.2 = .slice (some ⟨xb, xo, none⟩) y.1.args.length xc → w.cell? ⟨xb, xo + n * 4 + 3, none⟩ = some c3 →
 RepG S w (argN n y) (.int .i64 (argN n y).kind) (.int .i64 (argN n y).num) (.string (argN n y).text) c3
def TellPost (S : Nat → Prop) (v : V) (w : World) (e : Ending) (w' : World) : Prop := ∃ c0 c1 c2 c3, e = .returned (.agg #[c0, c1, c2, c3]) ∧ RepG S w' v c0 c1 c2 c3 ∧ Below w.heap.size w w'
set_option maxRecDepth 100000 in
set_option maxHeartbeats 4000000 in
theorem tell_min (n ab tb : Nat) (x : Cel) (l : List Cel) (blk o cap : Nat) (S : Nat → Prop) (w : World) (h63 : l.length + 1 ≤ 140737488355328) (hS : ∀ k, S k → k < w.heap.size) (hab : w.cell? ⟨ab, 0, none⟩ = some (.int .i64 (n : Int)))
  (htb : w.cell? ⟨tb, 0, none⟩ = some (.func (.func 56) #[] #[.pointer (some ⟨ab, 0, none⟩)])) (hrow : ∀ j (h : j < (x :: l).length), HasRow w blk (o + j) (x :: l)[j]) (hblk : blk < w.heap.size)
  (hrep : ∀ y ∈ x :: l, RepRo S w y.1 (.string y.1.name) y.2 (.int .i64 y.1.stamp)) (hlong : ∀ y ∈ x :: l, n < y.1.args.length)
  (S' : Nat → Prop) (hS' : ∀ k, S' k → k < w.heap.size) (hel : ∀ y ∈ x :: l, ElAt S' n y w) :
  Calls Try.prog 57 (#[.slice (some ⟨blk, o * 3, none⟩) (l.length + 1) cap] ++ #[.pointer (some ⟨tb, 0, none⟩), .pointer (some ⟨ab, 0, none⟩)]) w (TellPost S' (argN n (minC (cmpAt n) x l)) w) := by
 have hen : ∀ args w, Sem.run Try.prog (callFunc 56 args) w = .ok (.enter 56 args) w := fun args w => by kernel_rfl
 have d0 := below_alloc w (.cells #[.int .i64 0, .int .i64 0, .string ⟨#[]⟩, .slice none 0 0] 27);have m0 := alloc_new' w (.cells #[.int .i64 0, .int .i64 0, .string ⟨#[]⟩, .slice none 0 0] 27);have hmem : minC (cmpAt n) x l ∈ x :: l := minC_mem (cmpAt n) l x;obtain ⟨y, hy⟩ : ∃ y, minC (cmpAt n) x l = y := ⟨_, rfl⟩;rw [hy] at hmem;have hny := hlong y hmem;obtain ⟨xb, xo, xc, va, vc, hy2, hxb, x0, x1, x2, x3, hxr⟩ := arg_at (hrep y hmem) hny;have hu : y.1.args[n] = argN n y := (argN_at hny).symm;have hxr' := hel y hmem _ xb xo xc hy2 x3;rw [hu] at x0 x1 x2 x3 hxr';rw [hy];obtain ⟨u, hu2⟩ : ∃ u, argN n y = u := ⟨_, rfl⟩;rw [hu2] at x0 x1 x2 x3 hxr' ⊢;have k1 : (0 : Int) ≤ (n : Int) := Int.natCast_nonneg n;have k2 : (n : Int) < (y.1.args.length : Int) := by omega
 have hxl := hS _ hxb
 have hw1 : ∀ w1, Below w.heap.size w w1 → Calls Try.prog 58 #[.slice (some ⟨blk, o * 3, none⟩) (l.length + 1) cap, .func (.func 56) #[] #[.pointer (some ⟨ab, 0, none⟩)]] w1 fun e w' => e = .returned (.agg #[.string y.1.name, .slice (some ⟨xb, xo, none⟩) y.1.args.length xc, .int .i64 y.1.stamp]) ∧ Below w1.heap.size w1 w' := fun w1 hb1 => by
  have h := min_any x l (cmpAt n) blk o cap 56 #[.pointer (some ⟨ab, 0, none⟩)] w1 h63 hen (fun j h => (hrow j h).on hblk hb1) (Nat.lt_of_lt_of_le hblk hb1.size)
   (fun z hz => by obtain ⟨a, c, -, e, -⟩ := (hrep z hz).form; exact ⟨a, _, c, e⟩)
   (fun y hy z hz W hW => by
    have hb : Below w.heap.size w W := Below.step hb1 hW;refine (there_any n ab y z S W (fun k hk => Nat.lt_of_lt_of_le (hS k hk) hb.size) ((hb.cell (p := ⟨ab, 0, none⟩) (cell_lt hab)).trans hab) (RepRo.on (fun _ h => h) (fun k hk => hb.block k (hS k hk)) (hrep y hy)) (RepRo.on (fun _ h => h) (fun k hk => hb.block k (hS k hk)) (hrep z hz)) (hlong y hy) (hlong z hz)).mono ?_;rintro e W' ⟨he, ho⟩
    refine ⟨by rw [he, cmpAt, argN_at (hlong y hy), argN_at (hlong z hz)], ho⟩)
  rw [hy] at h;unfold rowArg at h;rw [hy2] at h;exact h
 have HW1 := Lib.hid hw1;have HXR := Lib.hid hxr'; have HS := Lib.hid hS'
 have x0' := (d0.cell (p := ⟨xb, xo + n * 4, none⟩) hxl).trans x0;have x1' := (d0.cell (p := ⟨xb, xo + n * 4 + 1, none⟩) hxl).trans x1;have x2' := (d0.cell (p := ⟨xb, xo + n * 4 + 2, none⟩) hxl).trans x2;have x3' := (d0.cell (p := ⟨xb, xo + n * 4 + 3, none⟩) hxl).trans x3;have t0' := (d0.cell (p := ⟨tb, 0, none⟩) (cell_lt htb)).trans htb;have a0' := (d0.cell (p := ⟨ab, 0, none⟩) (cell_lt hab)).trans hab;have Wx0 := Lib.hid x0; have Wx1 := Lib.hid x1; have Wx2 := Lib.hid x2; have Wx3 := Lib.hid x3; have Wt0 := Lib.hid htb; have Wa0 := Lib.hid hab
 have D0 := Lib.hid d0;have hf : ∀ (a b c : Value) (w : World), Sem.run Try.prog (Instr.field 47 (.agg #[a, b, c]) 1) w = .ok b w := fun a b c w => by kernel_rfl
 clear hen hS hab htb hrow hblk hrep hlong hmem hy hny hy2 hxb hxr hxr' hel hS' hu hu2 hxl hw1 d0 x0 x1 x2 x3;go_enter Try.func57, Try.ntmps57
 go_upto_region 1 with fail
 obtain ⟨rt, hrt⟩ : ∃ b, w.heap.size = b := ⟨_, rfl⟩;rw [hrt] at m0 ⊢;have HRT := Lib.hid hrt;clear hrt;generalize w.alloc (.cells #[.int .i64 0, .int .i64 0, .string ⟨#[]⟩, .slice none 0 0] 27) = w2 at *;have MR : Hid (w2.drew.heap[rt]? = some (.cells #[.int .i64 0, .int .i64 0, .string ⟨#[]⟩, .slice none 0 0] 27 (0, 0))) := m0;have x0 : w2.drew.cell? ⟨xb, xo + n * 4, none⟩ = some (.int .i64 u.kind) := x0';have x1 : w2.drew.cell? ⟨xb, xo + n * 4 + 1, none⟩ = some (.int .i64 u.num) := x1';have x2 : w2.drew.cell? ⟨xb, xo + n * 4 + 2, none⟩ = some (.string u.text) := x2';have x3 : w2.drew.cell? ⟨xb, xo + n * 4 + 3, none⟩ = some (.slice va u.list.length vc) := x3';have t0 : w2.drew.cell? ⟨tb, 0, none⟩ = some (.func (.func 56) #[] #[.pointer (some ⟨ab, 0, none⟩)]) := t0';have a0 : w2.drew.cell? ⟨ab, 0, none⟩ = some (.int .i64 (n : Int)) := a0';have r0 : w2.drew.cell? ⟨rt, 0, none⟩ = some (.int .i64 0) := cell_of_block' (i := 0) m0 _ rfl;have r1 : w2.drew.cell? ⟨rt, 1, none⟩ = some (.int .i64 0) := cell_of_block' (i := 1) m0 _ rfl;have r2 : w2.drew.cell? ⟨rt, 2, none⟩ = some (.string ⟨#[]⟩) := cell_of_block' (i := 2) m0 _ rfl;have r3 : w2.drew.cell? ⟨rt, 3, none⟩ = some (.slice none 0 0) := cell_of_block' (i := 3) m0 _ rfl;have HRL : Hid (rt < w2.drew.heap.size) := cell_lt r0;have HLE : Hid (w.heap.size ≤ rt) := by have := HRT.out; show _ ≤ _; omega
 have HD : Hid (Below w.heap.size w w2.drew) := Below.drew D0.out;clear m0 x0' x1' x2' x3' t0' a0' D0
 go_region_held3 (fun w' => w'.cell? ⟨tb, 0, none⟩ = some (.func (.func 56) #[] #[.pointer (some ⟨ab, 0, none⟩)]) ∧ w'.cell? ⟨ab, 0, none⟩ = some (.int .i64 (n : Int)) ∧ w'.cell? ⟨xb, xo + n * 4, none⟩ = some (.int .i64 u.kind) ∧ w'.cell? ⟨xb, xo + n * 4 + 1, none⟩ = some (.int .i64 u.num) ∧ w'.cell? ⟨xb, xo + n * 4 + 2, none⟩ = some (.string u.text) ∧ w'.cell? ⟨xb, xo + n * 4 + 3, none⟩ = some (.slice va u.list.length vc))
  (first | (with_reducible exact ⟨t0, a0, x0, x1, x2, x3⟩) | (with_reducible exact ⟨(hb.cell (p := ⟨tb, 0, none⟩) (cell_lt t0)).trans t0, (hb.cell (p := ⟨ab, 0, none⟩) (cell_lt a0)).trans a0, (hb.cell (p := ⟨xb, xo + n * 4, none⟩) (cell_lt x0)).trans x0, (hb.cell (p := ⟨xb, xo + n * 4 + 1, none⟩) (cell_lt x1)).trans x1, (hb.cell (p := ⟨xb, xo + n * 4 + 2, none⟩) (cell_lt x2)).trans x2, (hb.cell (p := ⟨xb, xo + n * 4 + 3, none⟩) (cell_lt x3)).trans x3⟩) | (with_reducible exact ⟨(Below.cell (Below.setCell (p := ⟨rt, 3, none⟩) ((Below.setCell (p := ⟨rt, 2, none⟩) ((Below.setCell (p := ⟨rt, 1, none⟩) ((Below.setCell (p := ⟨rt, 0, none⟩) (Below.step HD.out hb) HLE.out _)) HLE.out _)) HLE.out _)) HLE.out _) (p := ⟨tb, 0, none⟩) (cell_lt Wt0.out)).trans Wt0.out, (Below.cell (Below.setCell (p := ⟨rt, 3, none⟩) ((Below.setCell (p := ⟨rt, 2, none⟩) ((Below.setCell (p := ⟨rt, 1, none⟩) ((Below.setCell (p := ⟨rt, 0, none⟩) (Below.step HD.out hb) HLE.out _)) HLE.out _)) HLE.out _)) HLE.out _) (p := ⟨ab, 0, none⟩) (cell_lt Wa0.out)).trans Wa0.out, (Below.cell (Below.setCell (p := ⟨rt, 3, none⟩) ((Below.setCell (p := ⟨rt, 2, none⟩) ((Below.setCell (p := ⟨rt, 1, none⟩) ((Below.setCell (p := ⟨rt, 0, none⟩) (Below.step HD.out hb) HLE.out _)) HLE.out _)) HLE.out _)) HLE.out _) (p := ⟨xb, xo + n * 4, none⟩) (cell_lt Wx0.out)).trans Wx0.out, (Below.cell (Below.setCell (p := ⟨rt, 3, none⟩) ((Below.setCell (p := ⟨rt, 2, none⟩) ((Below.setCell (p := ⟨rt, 1, none⟩) ((Below.setCell (p := ⟨rt, 0, none⟩) (Below.step HD.out hb) HLE.out _)) HLE.out _)) HLE.out _)) HLE.out _) (p := ⟨xb, xo + n * 4 + 1, none⟩) (cell_lt Wx1.out)).trans Wx1.out, (Below.cell (Below.setCell (p := ⟨rt, 3, none⟩) ((Below.setCell (p := ⟨rt, 2, none⟩) ((Below.setCell (p := ⟨rt, 1, none⟩) ((Below.setCell (p := ⟨rt, 0, none⟩) (Below.step HD.out hb) HLE.out _)) HLE.out _)) HLE.out _)) HLE.out _) (p := ⟨xb, xo + n * 4 + 2, none⟩) (cell_lt Wx2.out)).trans Wx2.out, (Below.cell (Below.setCell (p := ⟨rt, 3, none⟩) ((Below.setCell (p := ⟨rt, 2, none⟩) ((Below.setCell (p := ⟨rt, 1, none⟩) ((Below.setCell (p := ⟨rt, 0, none⟩) (Below.step HD.out hb) HLE.out _)) HLE.out _)) HLE.out _)) HLE.out _) (p := ⟨xb, xo + n * 4 + 3, none⟩) (cell_lt Wx3.out)).trans Wx3.out⟩))
  (first | (go_at_call 58; refine (HW1.out _ HD.out).mono ?_; rintro e w3 ⟨rfl, hb⟩; have r1 := (hb.cell (p := ⟨rt, 1, none⟩) (cell_lt r0)).trans r1; have r2 := (hb.cell (p := ⟨rt, 2, none⟩) (cell_lt r0)).trans r2; have r3 := (hb.cell (p := ⟨rt, 3, none⟩) (cell_lt r0)).trans r3; have r0 := (hb.cell (p := ⟨rt, 0, none⟩) (cell_lt r0)).trans r0; have z0 := frozen_of_row w3 rt 0 _ _ ((hb.block rt HRL.out).trans MR.out); have z1 := frozen_of_row w3 rt 1 _ _ ((hb.block rt HRL.out).trans MR.out); have z2 := frozen_of_row w3 rt 2 _ _ ((hb.block rt HRL.out).trans MR.out); have z3 := frozen_of_row w3 rt 3 _ _ ((hb.block rt HRL.out).trans MR.out)))
 have M3 : Hid (w3.heap[rt]? = some (.cells #[.int .i64 0, .int .i64 0, .string ⟨#[]⟩, .slice none 0 0] 27 (0, 0))) := (hb.block rt HRL.out).trans MR.out;have HB3 : Hid (Below w.heap.size w w3) := Below.step HD.out hb;obtain ⟨wz, hwz⟩ : ∃ z', (((w3.setCell ⟨rt, 0, none⟩ (.int .i64 u.kind)).setCell ⟨rt, 1, none⟩ (.int .i64 u.num)).setCell ⟨rt, 2, none⟩ (.string u.text)).setCell ⟨rt, 3, none⟩ (.slice va u.list.length vc) = z' := ⟨_, rfl⟩;rw [hwz];have hpz : wz = putCells w3 rt 0 [.int .i64 u.kind, .int .i64 u.num, .string u.text, .slice va u.list.length vc] := hwz.symm.trans rfl;have Y : wz.heap[rt]? = some (.cells #[.int .i64 u.kind, .int .i64 u.num, .string u.text, .slice va u.list.length vc] 27 (0, 0)) := by rw [hpz]; exact putCells_all M3.out rfl
 have y0 := cell_of_block' (i := 0) Y _ rfl;have y1 := cell_of_block' (i := 1) Y _ rfl;have y2 := cell_of_block' (i := 2) Y _ rfl;have y3 := cell_of_block' (i := 3) Y _ rfl;have hbz : Below w.heap.size w wz := by rw [hpz]; exact putCells_below _ rt (by have := HRT.out; omega) _ _ _ HB3.out
 go_wp2_with fail
 exact bodyPost_ret (v := .agg #[.int .i64 u.kind, .int .i64 u.num, .string u.text, .slice va u.list.length vc]) (by simp [results, Try.results57, go_sem, y0, y1, y2, y3]) rfl ⟨_, _, _, _, rfl, RepG.on (fun _ h => h) (fun k hk => hbz.block k (HS.out k hk)) _ HXR.out, hbz⟩
set_option maxRecDepth 100000 in
set_option maxHeartbeats 4000000 in
theorem tell_max (n ab tb : Nat) (x : Cel) (l : List Cel) (blk o cap : Nat) (S : Nat → Prop) (w : World) (h63 : l.length + 1 ≤ 140737488355328) (hS : ∀ k, S k → k < w.heap.size) (hab : w.cell? ⟨ab, 0, none⟩ = some (.int .i64 (n : Int)))
  (htb : w.cell? ⟨tb, 0, none⟩ = some (.func (.func 56) #[] #[.pointer (some ⟨ab, 0, none⟩)])) (hrow : ∀ j (h : j < (x :: l).length), HasRow w blk (o + j) (x :: l)[j]) (hblk : blk < w.heap.size)
  (hrep : ∀ y ∈ x :: l, RepRo S w y.1 (.string y.1.name) y.2 (.int .i64 y.1.stamp)) (hlong : ∀ y ∈ x :: l, n < y.1.args.length)
  (S' : Nat → Prop) (hS' : ∀ k, S' k → k < w.heap.size) (hel : ∀ y ∈ x :: l, ElAt S' n y w) :
  Calls Try.prog 59 (#[.slice (some ⟨blk, o * 3, none⟩) (l.length + 1) cap] ++ #[.pointer (some ⟨tb, 0, none⟩), .pointer (some ⟨ab, 0, none⟩)]) w (TellPost S' (argN n (maxC (cmpAt n) x l)) w) := by
 have hen : ∀ args w, Sem.run Try.prog (callFunc 56 args) w = .ok (.enter 56 args) w := fun args w => by kernel_rfl
 have d0 := below_alloc w (.cells #[.int .i64 0, .int .i64 0, .string ⟨#[]⟩, .slice none 0 0] 27);have m0 := alloc_new' w (.cells #[.int .i64 0, .int .i64 0, .string ⟨#[]⟩, .slice none 0 0] 27);have hmem : maxC (cmpAt n) x l ∈ x :: l := maxC_mem (cmpAt n) l x;obtain ⟨y, hy⟩ : ∃ y, maxC (cmpAt n) x l = y := ⟨_, rfl⟩;rw [hy] at hmem;have hny := hlong y hmem;obtain ⟨xb, xo, xc, va, vc, hy2, hxb, x0, x1, x2, x3, hxr⟩ := arg_at (hrep y hmem) hny;have hu : y.1.args[n] = argN n y := (argN_at hny).symm;have hxr' := hel y hmem _ xb xo xc hy2 x3;rw [hu] at x0 x1 x2 x3 hxr';rw [hy];obtain ⟨u, hu2⟩ : ∃ u, argN n y = u := ⟨_, rfl⟩;rw [hu2] at x0 x1 x2 x3 hxr' ⊢;have k1 : (0 : Int) ≤ (n : Int) := Int.natCast_nonneg n;have k2 : (n : Int) < (y.1.args.length : Int) := by omega
 have hxl := hS _ hxb
 have hw1 : ∀ w1, Below w.heap.size w w1 → Calls Try.prog 60 #[.slice (some ⟨blk, o * 3, none⟩) (l.length + 1) cap, .func (.func 56) #[] #[.pointer (some ⟨ab, 0, none⟩)]] w1 fun e w' => e = .returned (.agg #[.string y.1.name, .slice (some ⟨xb, xo, none⟩) y.1.args.length xc, .int .i64 y.1.stamp]) ∧ Below w1.heap.size w1 w' := fun w1 hb1 => by
  have h := max_any x l (cmpAt n) blk o cap 56 #[.pointer (some ⟨ab, 0, none⟩)] w1 h63 hen (fun j h => (hrow j h).on hblk hb1) (Nat.lt_of_lt_of_le hblk hb1.size)
   (fun z hz => by obtain ⟨a, c, -, e, -⟩ := (hrep z hz).form; exact ⟨a, _, c, e⟩)
   (fun y hy z hz W hW => by
    have hb : Below w.heap.size w W := Below.step hb1 hW;refine (there_any n ab y z S W (fun k hk => Nat.lt_of_lt_of_le (hS k hk) hb.size) ((hb.cell (p := ⟨ab, 0, none⟩) (cell_lt hab)).trans hab) (RepRo.on (fun _ h => h) (fun k hk => hb.block k (hS k hk)) (hrep y hy)) (RepRo.on (fun _ h => h) (fun k hk => hb.block k (hS k hk)) (hrep z hz)) (hlong y hy) (hlong z hz)).mono ?_;rintro e W' ⟨he, ho⟩
    refine ⟨by rw [he, cmpAt, argN_at (hlong y hy), argN_at (hlong z hz)], ho⟩)
  rw [hy] at h;unfold rowArg at h;rw [hy2] at h;exact h
 have HW1 := Lib.hid hw1;have HXR := Lib.hid hxr'; have HS := Lib.hid hS'
 have x0' := (d0.cell (p := ⟨xb, xo + n * 4, none⟩) hxl).trans x0;have x1' := (d0.cell (p := ⟨xb, xo + n * 4 + 1, none⟩) hxl).trans x1;have x2' := (d0.cell (p := ⟨xb, xo + n * 4 + 2, none⟩) hxl).trans x2;have x3' := (d0.cell (p := ⟨xb, xo + n * 4 + 3, none⟩) hxl).trans x3;have t0' := (d0.cell (p := ⟨tb, 0, none⟩) (cell_lt htb)).trans htb;have a0' := (d0.cell (p := ⟨ab, 0, none⟩) (cell_lt hab)).trans hab;have Wx0 := Lib.hid x0; have Wx1 := Lib.hid x1; have Wx2 := Lib.hid x2; have Wx3 := Lib.hid x3; have Wt0 := Lib.hid htb; have Wa0 := Lib.hid hab
 have D0 := Lib.hid d0;have hf : ∀ (a b c : Value) (w : World), Sem.run Try.prog (Instr.field 47 (.agg #[a, b, c]) 1) w = .ok b w := fun a b c w => by kernel_rfl
 clear hen hS hab htb hrow hblk hrep hlong hmem hy hny hy2 hxb hxr hxr' hel hS' hu hu2 hxl hw1 d0 x0 x1 x2 x3;go_enter Try.func59, Try.ntmps59
 go_upto_region 1 with fail
 obtain ⟨rt, hrt⟩ : ∃ b, w.heap.size = b := ⟨_, rfl⟩;rw [hrt] at m0 ⊢;have HRT := Lib.hid hrt;clear hrt;generalize w.alloc (.cells #[.int .i64 0, .int .i64 0, .string ⟨#[]⟩, .slice none 0 0] 27) = w2 at *;have MR : Hid (w2.drew.heap[rt]? = some (.cells #[.int .i64 0, .int .i64 0, .string ⟨#[]⟩, .slice none 0 0] 27 (0, 0))) := m0;have x0 : w2.drew.cell? ⟨xb, xo + n * 4, none⟩ = some (.int .i64 u.kind) := x0';have x1 : w2.drew.cell? ⟨xb, xo + n * 4 + 1, none⟩ = some (.int .i64 u.num) := x1';have x2 : w2.drew.cell? ⟨xb, xo + n * 4 + 2, none⟩ = some (.string u.text) := x2';have x3 : w2.drew.cell? ⟨xb, xo + n * 4 + 3, none⟩ = some (.slice va u.list.length vc) := x3';have t0 : w2.drew.cell? ⟨tb, 0, none⟩ = some (.func (.func 56) #[] #[.pointer (some ⟨ab, 0, none⟩)]) := t0';have a0 : w2.drew.cell? ⟨ab, 0, none⟩ = some (.int .i64 (n : Int)) := a0';have r0 : w2.drew.cell? ⟨rt, 0, none⟩ = some (.int .i64 0) := cell_of_block' (i := 0) m0 _ rfl;have r1 : w2.drew.cell? ⟨rt, 1, none⟩ = some (.int .i64 0) := cell_of_block' (i := 1) m0 _ rfl;have r2 : w2.drew.cell? ⟨rt, 2, none⟩ = some (.string ⟨#[]⟩) := cell_of_block' (i := 2) m0 _ rfl;have r3 : w2.drew.cell? ⟨rt, 3, none⟩ = some (.slice none 0 0) := cell_of_block' (i := 3) m0 _ rfl;have HRL : Hid (rt < w2.drew.heap.size) := cell_lt r0;have HLE : Hid (w.heap.size ≤ rt) := by have := HRT.out; show _ ≤ _; omega
 have HD : Hid (Below w.heap.size w w2.drew) := Below.drew D0.out;clear m0 x0' x1' x2' x3' t0' a0' D0
 go_region_held3 (fun w' => w'.cell? ⟨tb, 0, none⟩ = some (.func (.func 56) #[] #[.pointer (some ⟨ab, 0, none⟩)]) ∧ w'.cell? ⟨ab, 0, none⟩ = some (.int .i64 (n : Int)) ∧ w'.cell? ⟨xb, xo + n * 4, none⟩ = some (.int .i64 u.kind) ∧ w'.cell? ⟨xb, xo + n * 4 + 1, none⟩ = some (.int .i64 u.num) ∧ w'.cell? ⟨xb, xo + n * 4 + 2, none⟩ = some (.string u.text) ∧ w'.cell? ⟨xb, xo + n * 4 + 3, none⟩ = some (.slice va u.list.length vc))
  (first | (with_reducible exact ⟨t0, a0, x0, x1, x2, x3⟩) | (with_reducible exact ⟨(hb.cell (p := ⟨tb, 0, none⟩) (cell_lt t0)).trans t0, (hb.cell (p := ⟨ab, 0, none⟩) (cell_lt a0)).trans a0, (hb.cell (p := ⟨xb, xo + n * 4, none⟩) (cell_lt x0)).trans x0, (hb.cell (p := ⟨xb, xo + n * 4 + 1, none⟩) (cell_lt x1)).trans x1, (hb.cell (p := ⟨xb, xo + n * 4 + 2, none⟩) (cell_lt x2)).trans x2, (hb.cell (p := ⟨xb, xo + n * 4 + 3, none⟩) (cell_lt x3)).trans x3⟩) | (with_reducible exact ⟨(Below.cell (Below.setCell (p := ⟨rt, 3, none⟩) ((Below.setCell (p := ⟨rt, 2, none⟩) ((Below.setCell (p := ⟨rt, 1, none⟩) ((Below.setCell (p := ⟨rt, 0, none⟩) (Below.step HD.out hb) HLE.out _)) HLE.out _)) HLE.out _)) HLE.out _) (p := ⟨tb, 0, none⟩) (cell_lt Wt0.out)).trans Wt0.out, (Below.cell (Below.setCell (p := ⟨rt, 3, none⟩) ((Below.setCell (p := ⟨rt, 2, none⟩) ((Below.setCell (p := ⟨rt, 1, none⟩) ((Below.setCell (p := ⟨rt, 0, none⟩) (Below.step HD.out hb) HLE.out _)) HLE.out _)) HLE.out _)) HLE.out _) (p := ⟨ab, 0, none⟩) (cell_lt Wa0.out)).trans Wa0.out, (Below.cell (Below.setCell (p := ⟨rt, 3, none⟩) ((Below.setCell (p := ⟨rt, 2, none⟩) ((Below.setCell (p := ⟨rt, 1, none⟩) ((Below.setCell (p := ⟨rt, 0, none⟩) (Below.step HD.out hb) HLE.out _)) HLE.out _)) HLE.out _)) HLE.out _) (p := ⟨xb, xo + n * 4, none⟩) (cell_lt Wx0.out)).trans Wx0.out, (Below.cell (Below.setCell (p := ⟨rt, 3, none⟩) ((Below.setCell (p := ⟨rt, 2, none⟩) ((Below.setCell (p := ⟨rt, 1, none⟩) ((Below.setCell (p := ⟨rt, 0, none⟩) (Below.step HD.out hb) HLE.out _)) HLE.out _)) HLE.out _)) HLE.out _) (p := ⟨xb, xo + n * 4 + 1, none⟩) (cell_lt Wx1.out)).trans Wx1.out, (Below.cell (Below.setCell (p := ⟨rt, 3, none⟩) ((Below.setCell (p := ⟨rt, 2, none⟩) ((Below.setCell (p := ⟨rt, 1, none⟩) ((Below.setCell (p := ⟨rt, 0, none⟩) (Below.step HD.out hb) HLE.out _)) HLE.out _)) HLE.out _)) HLE.out _) (p := ⟨xb, xo + n * 4 + 2, none⟩) (cell_lt Wx2.out)).trans Wx2.out, (Below.cell (Below.setCell (p := ⟨rt, 3, none⟩) ((Below.setCell (p := ⟨rt, 2, none⟩) ((Below.setCell (p := ⟨rt, 1, none⟩) ((Below.setCell (p := ⟨rt, 0, none⟩) (Below.step HD.out hb) HLE.out _)) HLE.out _)) HLE.out _)) HLE.out _) (p := ⟨xb, xo + n * 4 + 3, none⟩) (cell_lt Wx3.out)).trans Wx3.out⟩))
  (first | (go_at_call 60; refine (HW1.out _ HD.out).mono ?_; rintro e w3 ⟨rfl, hb⟩; have r1 := (hb.cell (p := ⟨rt, 1, none⟩) (cell_lt r0)).trans r1; have r2 := (hb.cell (p := ⟨rt, 2, none⟩) (cell_lt r0)).trans r2; have r3 := (hb.cell (p := ⟨rt, 3, none⟩) (cell_lt r0)).trans r3; have r0 := (hb.cell (p := ⟨rt, 0, none⟩) (cell_lt r0)).trans r0; have z0 := frozen_of_row w3 rt 0 _ _ ((hb.block rt HRL.out).trans MR.out); have z1 := frozen_of_row w3 rt 1 _ _ ((hb.block rt HRL.out).trans MR.out); have z2 := frozen_of_row w3 rt 2 _ _ ((hb.block rt HRL.out).trans MR.out); have z3 := frozen_of_row w3 rt 3 _ _ ((hb.block rt HRL.out).trans MR.out)))
 have M3 : Hid (w3.heap[rt]? = some (.cells #[.int .i64 0, .int .i64 0, .string ⟨#[]⟩, .slice none 0 0] 27 (0, 0))) := (hb.block rt HRL.out).trans MR.out;have HB3 : Hid (Below w.heap.size w w3) := Below.step HD.out hb;obtain ⟨wz, hwz⟩ : ∃ z', (((w3.setCell ⟨rt, 0, none⟩ (.int .i64 u.kind)).setCell ⟨rt, 1, none⟩ (.int .i64 u.num)).setCell ⟨rt, 2, none⟩ (.string u.text)).setCell ⟨rt, 3, none⟩ (.slice va u.list.length vc) = z' := ⟨_, rfl⟩;rw [hwz];have hpz : wz = putCells w3 rt 0 [.int .i64 u.kind, .int .i64 u.num, .string u.text, .slice va u.list.length vc] := hwz.symm.trans rfl;have Y : wz.heap[rt]? = some (.cells #[.int .i64 u.kind, .int .i64 u.num, .string u.text, .slice va u.list.length vc] 27 (0, 0)) := by rw [hpz]; exact putCells_all M3.out rfl
 have y0 := cell_of_block' (i := 0) Y _ rfl;have y1 := cell_of_block' (i := 1) Y _ rfl;have y2 := cell_of_block' (i := 2) Y _ rfl;have y3 := cell_of_block' (i := 3) Y _ rfl;have hbz : Below w.heap.size w wz := by rw [hpz]; exact putCells_below _ rt (by have := HRT.out; omega) _ _ _ HB3.out
 go_wp2_with fail
 exact bodyPost_ret (v := .agg #[.int .i64 u.kind, .int .i64 u.num, .string u.text, .slice va u.list.length vc]) (by simp [results, Try.results59, go_sem, y0, y1, y2, y3]) rfl ⟨_, _, _, _, rfl, RepG.on (fun _ h => h) (fun k hk => hbz.block k (HS.out k hk)) _ HXR.out, hbz⟩
end Go.Proofs.Ytpnaegohjbaggaa
namespace Go.Proofs.Ytpnaegohjbaggaa
open Go.RowKit
def numN (n : Int) : V := .mk 1 n ⟨#[]⟩ []
theorem numN_rep (S : Nat → Prop) (w : World) (n : Int) (h : I64 n) : RepG S w (numN n) (.int .i64 1) (.int .i64 n) (.string ⟨#[]⟩) (.slice none 0 0) :=
 repG_mk.2 ⟨rfl, rfl, rfl, by unfold I64; omega, h, Nat.zero_le _, lg_of_slg ⟨none, 0, 0, 0, rfl, Nat.le_refl _, by simp, fun h => by omega, fun h => by simp at h, fun i hi => by simp at hi⟩⟩
set_option maxRecDepth 100000 in
set_option maxHeartbeats 1000000 in
theorem tell_count (m : Nat) (p : Option Addr) (cap : Nat) (S : Nat → Prop) (w : World) (h63 : m ≤ 140737488355328) :
  Calls Try.prog 61 (#[.slice p m cap] ++ #[]) w (TellPost S (numN (m : Int)) w) := by
 have d0 := below_alloc w (.cells #[.int .i64 0, .int .i64 0, .string ⟨#[]⟩, .slice none 0 0] 27);have m0 := alloc_new' w (.cells #[.int .i64 0, .int .i64 0, .string ⟨#[]⟩, .slice none 0 0] 27);have D0 := Lib.hid d0;clear d0;go_enter Try.func61, Try.ntmps61
 go_upto_region 1 with fail
 obtain ⟨rt, hrt⟩ : ∃ b, w.heap.size = b := ⟨_, rfl⟩;rw [hrt] at m0 ⊢;have HRT := Lib.hid hrt;clear hrt;generalize w.alloc (.cells #[.int .i64 0, .int .i64 0, .string ⟨#[]⟩, .slice none 0 0] 27) = w2 at *;have MR := Lib.hid m0;have hl : rt < w2.heap.size := (Array.getElem?_eq_some_iff.1 m0).1;clear m0;go_wp2_with fail
 refine (number_any _ _).mono ?_;rintro e w3 ⟨rfl, hb⟩;have M3 : Hid (w3.heap[rt]? = some (.cells #[.int .i64 0, .int .i64 0, .string ⟨#[]⟩, .slice none 0 0] 27 (0, 0))) := (hb.block rt hl).trans MR.out;have HB3 : Hid (Below w.heap.size w w3) := Below.step D0.out hb;have r0 := cell_of_block' (i := 0) M3.out _ rfl;have r1 := cell_of_block' (i := 1) M3.out _ rfl;have r2 := cell_of_block' (i := 2) M3.out _ rfl;have r3 := cell_of_block' (i := 3) M3.out _ rfl;have z0 := frozen_of_row w3 rt 0 _ _ M3.out;have z1 := frozen_of_row w3 rt 1 _ _ M3.out;have z2 := frozen_of_row w3 rt 2 _ _ M3.out;have z3 := frozen_of_row w3 rt 3 _ _ M3.out;clear hb hl;go_wp2_with fail
 obtain ⟨wz, hwz⟩ : ∃ z', (((w3.setCell ⟨rt, 0, none⟩ (.int .i64 1)).setCell ⟨rt, 1, none⟩ (.int .i64 (m : Int))).setCell ⟨rt, 2, none⟩ (.string ⟨#[]⟩)).setCell ⟨rt, 3, none⟩ (.slice none 0 0) = z' := ⟨_, rfl⟩;rw [hwz];have hpz : wz = putCells w3 rt 0 [.int .i64 1, .int .i64 (m : Int), .string ⟨#[]⟩, .slice none 0 0] := hwz.symm.trans rfl;have Y : wz.heap[rt]? = some (.cells #[.int .i64 1, .int .i64 (m : Int), .string ⟨#[]⟩, .slice none 0 0] 27 (0, 0)) := by rw [hpz]; exact putCells_all M3.out rfl
 have y0 := cell_of_block' (i := 0) Y _ rfl;have y1 := cell_of_block' (i := 1) Y _ rfl;have y2 := cell_of_block' (i := 2) Y _ rfl;have y3 := cell_of_block' (i := 3) Y _ rfl;have hbz : Below w.heap.size w wz := by rw [hpz]; exact putCells_below _ rt (by have := HRT.out; omega) _ _ _ HB3.out
 exact bodyPost_ret (v := .agg #[.int .i64 1, .int .i64 (m : Int), .string ⟨#[]⟩, .slice none 0 0]) (by simp [results, Try.results61, go_sem, y0, y1, y2, y3]) rfl ⟨_, _, _, _, rfl, numN_rep _ _ _ (by unfold I64; omega), hbz⟩
def longZ : Int → List Cel → Int
 | m, [] => m
 | m, y :: l => longZ (if m < y.1.stamp then y.1.stamp else m) l
theorem longZ_app (y : Cel) : ∀ (l : List Cel) (m : Int), longZ m (l ++ [y]) = if longZ m l < y.1.stamp then y.1.stamp else longZ m l
 | [], m => rfl
 | z :: l, m => by rw [List.cons_append, longZ, longZ, longZ_app y l]
theorem longZ_snoc (m : Int) (l : List Cel) (i : Nat) (h : i < l.length) : longZ m (l.take (i + 1)) = if longZ m (l.take i) < l[i].1.stamp then l[i].1.stamp else longZ m (l.take i) := by
 rw [List.take_succ_eq_append_getElem h, longZ_app]
set_option maxRecDepth 100000 in
set_option maxHeartbeats 2000000 in
theorem longest_any (x : Cel) (l : List Cel) (blk o cap : Nat) (w : World) (h63 : l.length + 1 ≤ 140737488355328) (hrow : ∀ j (h : j < (x :: l).length), HasRow w blk (o + j) (x :: l)[j]) (hblk : blk < w.heap.size) (hform : ∀ y ∈ x :: l, ∃ a m c, y.2 = .slice a m c) :
  Calls Try.prog 38 #[.slice (some ⟨blk, o * 3, none⟩) (l.length + 1) cap] w fun e w' => e = .returned (.int .i64 (longZ x.1.stamp (x :: l))) ∧ Below w.heap.size w w' := by
 have HR := Lib.hid hrow; have HB := Lib.hid hblk; have HF := Lib.hid hform
 obtain ⟨p0, p1, p2⟩ := hrow 0 (by simp);simp only [Nat.add_zero, List.getElem_cons_zero] at p0 p1 p2
 have k1 : (0 : Int) < (l.length : Int) + 1 := by omega
 clear hrow hblk hform;obtain ⟨L, hL⟩ : ∃ L, x :: l = L := ⟨_, rfl⟩;have HL : Hid (L.length = l.length + 1) := by show _ = _; rw [← hL]; rfl
 rw [hL] at HR HF ⊢;clear hL;go_enter Try.func38, Try.ntmps38
 go_upto_region 3 with fail
 clear p0 p1 p2 k1;go_loopw [3, 12] (fun mv iv wr => ∃ i : Nat, i ≤ L.length ∧ iv = .int .i64 (i : Int) ∧ mv = .int .i64 (longZ x.1.stamp (L.take i)) ∧ Hid (Below w.heap.size w wr)) (fun _ iv _ => L.length - (intOf iv).toNat)
 case atStart => exact ⟨0, Nat.zero_le _, rfl, by rw [List.take_zero, longZ], Below.refl _ _⟩
 case round =>
  obtain ⟨i, hi, rfl, rfl, hb⟩ := hrel;have hl := HL.out
  by_cases hlt : i < L.length
  ·have k1 : decide ((i : Int) < (l.length : Int) + 1) = true := decide_eq_true (by omega)
   have k2 : decide (i < l.length + 1) = true := decide_eq_true (by omega);have k3 : (0 : Int) ≤ (i : Int) := Int.natCast_nonneg i;have k4 : (i : Int) < (l.length : Int) + 1 := by omega
   obtain ⟨e0, e1, e2⟩ := (HR.out i hlt).on HB.out hb.out;rw [show (o + i) * 3 = o * 3 + i * 3 by omega] at e0 e1 e2;obtain ⟨ya, ym, yc, hy2⟩ := HF.out L[i] (List.getElem_mem hlt);rw [hy2] at e1;clear hy2;have HST := Lib.hid (longZ_snoc x.1.stamp L i hlt);have HLT := Lib.hid hlt;clear hi hl;generalize L[i] = y at *;clear hlt;obtain ⟨m, hm⟩ : ∃ m, longZ x.1.stamp (L.take i) = m := ⟨_, rfl⟩;rw [hm] at HST ⊢;clear hm
   by_cases hc : m < y.1.stamp
   ·have HC := Lib.hid hc
    have c1 : decide (m < y.1.stamp) = true := decide_eq_true hc;have c2 : ¬ y.1.stamp ≤ m := by omega
    go_wp2_with fail
    go_roundw
    case rel => exact ⟨i + 1, HLT.out, by go_num, by rw [HST.out, if_pos HC.out]; exact congrArg _ (by have := HC.out; omega), Below.step hb.out (below_alloc _ _)⟩
    case measure => have := HLT.out; simp [intOf]; omega
   ·have HC := Lib.hid hc
    have c1 : decide (m < y.1.stamp) = false := decide_eq_false hc;have c2 : y.1.stamp ≤ m := by omega
    go_wp2_with fail
    go_roundw
    case rel => exact ⟨i + 1, HLT.out, by go_num, by rw [HST.out, if_neg HC.out]; exact congrArg _ (by have := HC.out; omega), Below.step hb.out (below_alloc _ _)⟩
    case measure => have := HLT.out; simp [intOf]; omega
  ·have hie : i = L.length := by omega
   have k1 : decide ((i : Int) < (l.length : Int) + 1) = false := decide_eq_false (by omega);have k2 : decide (i < l.length + 1) = false := decide_eq_false (by omega);have HA : Hid (longZ x.1.stamp (L.take i) = longZ x.1.stamp L) := by show _ = _; rw [hie, List.take_length]
   clear hi hl hie hlt;go_wp2_with fail
   go_ret
   exact ⟨ret_int HA.out, hb.out⟩
def aggFn (s : ByteArray) (tb ab : Nat) : Value :=
 if (s.toList == ([109, 105, 110] : List UInt8)) = true then .func (.func 57) #[] #[.pointer (some ⟨tb, 0, none⟩), .pointer (some ⟨ab, 0, none⟩)]
 else if (s.toList == ([109, 97, 120] : List UInt8)) = true then .func (.func 59) #[] #[.pointer (some ⟨tb, 0, none⟩), .pointer (some ⟨ab, 0, none⟩)]
 else if (s.toList == ([99, 111, 117, 110, 116] : List UInt8)) = true then .func (.func 61) #[] #[] else .nilFunc
set_option maxRecDepth 100000 in
set_option maxHeartbeats 1000000 in
theorem aggregate_any (s : ByteArray) (n : Int) (w : World) :
  Calls Try.prog 34 #[.string s, .int .i64 n] w fun e w' => e = .returned (aggFn s (w.heap.size + 1) w.heap.size) ∧ w'.heap[w.heap.size]? = some (.cells #[.int .i64 n] 3 (0, 0)) ∧
   w'.heap[w.heap.size + 1]? = some (.cells #[.func (.func 56) #[] #[.pointer (some ⟨w.heap.size, 0, none⟩)]] 78 (0, 0)) ∧ Onto w w' := by
 obtain ⟨w2, hw2, m0, m1, ho⟩ := boxed2 w (.cells #[.int .i64 n] 3) (.cells #[.func (.func 56) #[] #[.pointer (some ⟨w.heap.size, 0, none⟩)]] 78);have H : Hid (w2.heap[w.heap.size]? = some (.cells #[.int .i64 n] 3 (0, 0)) ∧ w2.heap[w.heap.size + 1]? = some (.cells #[.func (.func 56) #[] #[.pointer (some ⟨w.heap.size, 0, none⟩)]] 78 (0, 0)) ∧ Onto w w2) := ⟨m0, m1, ho⟩;have HW := Lib.hid hw2;clear hw2 m0 m1 ho;obtain ⟨d1, g1⟩ : ∃ d, (s.toList == ([109, 105, 110] : List UInt8)) = d := ⟨_, rfl⟩;obtain ⟨d2, g2⟩ : ∃ d, (s.toList == ([109, 97, 120] : List UInt8)) = d := ⟨_, rfl⟩;obtain ⟨d3, g3⟩ : ∃ d, (s.toList == ([99, 111, 117, 110, 116] : List UInt8)) = d := ⟨_, rfl⟩
 have HF : Hid (aggFn s (w.heap.size + 1) w.heap.size = if d1 = true then .func (.func 57) #[] #[.pointer (some ⟨w.heap.size + 1, 0, none⟩), .pointer (some ⟨w.heap.size, 0, none⟩)]
  else if d2 = true then .func (.func 59) #[] #[.pointer (some ⟨w.heap.size + 1, 0, none⟩), .pointer (some ⟨w.heap.size, 0, none⟩)] else if d3 = true then .func (.func 61) #[] #[] else .nilFunc) := by unfold aggFn; rw [g1, g2, g3]; rfl
 go_enter Try.func34, Try.ntmps34
 go_upto_region 3 with fail
 rw [HW.out]
 cases d1
 case true =>
  go_wp2_with fail
  go_ret
  exact ⟨by rw [HF.out, if_pos (by trivial)] <;> rfl, H.out⟩
 cases d2
 case true =>
  go_wp2_with fail
  go_ret
  exact ⟨by rw [HF.out, if_neg (by simp), if_pos (by trivial)] <;> rfl, H.out⟩
 cases d3
 case true =>
  go_wp2_with fail
  go_ret
  exact ⟨by rw [HF.out, if_neg (by simp), if_neg (by simp), if_pos (by trivial)] <;> rfl, H.out⟩
 go_wp2_with fail
 go_ret
 exact ⟨by rw [HF.out, if_neg (by simp), if_neg (by simp), if_neg (by simp)] <;> rfl, H.out⟩
end Go.Proofs.Ytpnaegohjbaggaa
