/-
  LawBMatches
-/
import Derived.Test.YtjmnnjikmmglpaaKD19
import Derived.Test.YtjmnnjikmmglpaaKD21
import Derived.Test.YtjmnnjikmmglpaaKD25
import Derived.Test.YtjmnnjikmmglpaaKD26
namespace Go.Proofs.Ytjmnnjikmmglpaa.bindMatches
open Go.RowKit
theorem term4_any (x : Tm) (S : Nat → Prop) (w : World) (c0 c1 c2 c3 c4 c5 c6 : Value) (hS : ∀ k, S k → k < w.heap.size) (hx : RepM S w x c0 c1 c2 c3 c4 c5 c6) :
  Calls Try.prog 11 #[.agg #[c0, c1, c2, c3, c4, c5, c6], .int .i64 4] w (MadeM (fitTm 4 x) w) := term_any 3 (by omega) x S w c0 c1 c2 c3 c4 c5 c6 hS hx
def anyT (n : ByteArray) (T : List Tm) : Bool := T.any fun t => (t.kind == 1) && (t.name.toList == n.toList)
theorem anyT_take (n : ByteArray) (T : List Tm) {j : Nat} (h : j < T.length) : anyT n (T.take (j + 1)) = (anyT n (T.take j) || ((T[j].kind == 1) && (T[j].name.toList == n.toList))) := by
 rw [anyT, anyT, List.take_succ_eq_append_getElem h, List.any_append];simp
theorem match_facts {T : List Tm} {M : List V} {E F : List Bd} (h : matchZ T M E = some F) :
  E.length ≤ F.length ∧ F.take E.length = E ∧ (∀ i (h1 : i < T.length) (h2 : i < M.length), ∃ y, evalM F T[i] = some y ∧ cmpV y M[i] = 0) ∧ ∀ j (hj : j < F.length), E.length ≤ j → anyT F[j].1 T = true ∧ lookZ F[j].1 E = none := by
 obtain ⟨h1, rfl, h3⟩ := matchZ_some h;obtain ⟨G, hG, hb⟩ := withZ_ext (T.zip M) E;rw [hG] at h3 ⊢;refine ⟨by rw [List.length_append]; omega, List.take_left' rfl, fun i hi1 hi2 => ?_, fun j hj hge => ?_⟩
 ·have hz : i < (T.zip M).length := by rw [List.length_zip]; omega
  obtain ⟨y, hy1, hy2⟩ := h3 (T.zip M)[i] (List.getElem_mem hz);have he : (T.zip M)[i] = (T[i], M[i]) := by simp
  rw [he] at hy1 hy2;exact ⟨y, hy1, hy2⟩
 ·have hjg : j - E.length < G.length := by rw [List.length_append] at hj; omega
  have he : (E ++ G)[j] = G[j - E.length] := List.getElem_append_right hge;rw [he];obtain ⟨⟨p, hp, hk, hn⟩, hl⟩ := hb _ (List.getElem_mem hjg);refine ⟨?_, hl⟩;rw [anyT, List.any_eq_true];refine ⟨p.1, (List.of_mem_zip (a := p.1) (b := p.2) hp).1, ?_⟩;rw [hk, hn];simp
set_option maxRecDepth 100000 in
set_option maxHeartbeats 16000000 in
theorem walk (l : List Tm) (q : List V) (env other : List Bd) (W : World) (v0 v1 v2 v3 : Value) (gl : RepMs (fun k => k < W.heap.size) W l v0) (gq : RepLG (fun k => k < W.heap.size) W q v1) (ge : RepBs (fun k => k < W.heap.size) W env v2) (ge2 : RepBs (fun k => k < W.heap.size) W other v3) :
  Calls Try.prog 4 #[v0, v1, v2, v3] W fun e W' => e = .returned (.bool true) ∧ Below W.heap.size W W' := by
 have hl63 : l.length * 104 ≤ 140737488355328 := SlG.bytes gl;have hq63 : q.length * 56 ≤ 140737488355328 := SlG.bytes (slg_of_lg gq);obtain ⟨la, lc, rfl⟩ := SlG.form gl;obtain ⟨qa, qc, rfl⟩ := SlG.form (slg_of_lg gq);obtain ⟨na, nc, rfl⟩ := SlG.form ge;obtain ⟨na2, nc2, rfl⟩ := SlG.form ge2;have GL := Lib.hid gl; have GQ := Lib.hid gq; have GE := Lib.hid ge; have GE2 := Lib.hid ge2
 have B : Hid (Below W.heap.size W W) := Below.refl _ _;clear gl gq ge ge2;go_enter Try.func4, Try.ntmps4
 go_wp2_with fail
 refine (awake9_any W).mono ?_;rintro e w1 ⟨rfl, hb⟩;replace GL := Lib.hid (RepMs.on (S' := fun k => k < w1.heap.size) (w' := w1) (fun k hk => Nat.lt_of_lt_of_le hk hb.size) (fun k hk => hb.block k hk) GL.out);replace GQ := Lib.hid (RepLG.on (S' := fun k => k < w1.heap.size) (w' := w1) (fun k hk => Nat.lt_of_lt_of_le hk hb.size) (fun k hk => hb.block k hk) GQ.out);replace GE := Lib.hid (RepBs.on (S' := fun k => k < w1.heap.size) (w' := w1) (fun k hk => Nat.lt_of_lt_of_le hk hb.size) (fun k hk => hb.block k hk) GE.out);replace GE2 := Lib.hid (RepBs.on (S' := fun k => k < w1.heap.size) (w' := w1) (fun k hk => Nat.lt_of_lt_of_le hk hb.size) (fun k hk => hb.block k hk) GE2.out);replace B := Lib.hid (Below.step B.out hb);clear hb;go_wp2_with fail
 refine (env_any env (fun k => k < w1.heap.size) w1 _ (fun _ h => h) GE.out).mono ?_;rintro e w2 ⟨hb, ev, rfl, hr⟩;replace GL := Lib.hid (RepMs.on (S' := fun k => k < w2.heap.size) (w' := w2) (fun k hk => Nat.lt_of_lt_of_le hk hb.size) (fun k hk => hb.block k hk) GL.out);replace GQ := Lib.hid (RepLG.on (S' := fun k => k < w2.heap.size) (w' := w2) (fun k hk => Nat.lt_of_lt_of_le hk hb.size) (fun k hk => hb.block k hk) GQ.out);replace GE := Lib.hid (RepBs.on (S' := fun k => k < w2.heap.size) (w' := w2) (fun k hk => Nat.lt_of_lt_of_le hk hb.size) (fun k hk => hb.block k hk) GE.out);replace GE2 := Lib.hid (RepBs.on (S' := fun k => k < w2.heap.size) (w' := w2) (fun k hk => Nat.lt_of_lt_of_le hk hb.size) (fun k hk => hb.block k hk) GE2.out);replace B := Lib.hid (Below.step B.out hb);have HEL := Lib.hid (envZ_len env);generalize envZ env = E at *;obtain ⟨ea, ec, rfl⟩ := SlG.form hr;have GN : Hid (RepBs (fun k => k < w2.heap.size) w2 E (.slice ea E.length ec)) := RepBs.on (fun k hk => hk.2) (fun _ _ => rfl) hr;clear hr hb GE;go_wp2_with fail
 refine (env_any other (fun k => k < w2.heap.size) w2 _ (fun _ h => h) GE2.out).mono ?_;rintro e wE ⟨hb, ev, rfl, hr⟩;replace GL := Lib.hid (RepMs.on (S' := fun k => k < wE.heap.size) (w' := wE) (fun k hk => Nat.lt_of_lt_of_le hk hb.size) (fun k hk => hb.block k hk) GL.out);replace GQ := Lib.hid (RepLG.on (S' := fun k => k < wE.heap.size) (w' := wE) (fun k hk => Nat.lt_of_lt_of_le hk hb.size) (fun k hk => hb.block k hk) GQ.out);replace GE2 := Lib.hid (RepBs.on (S' := fun k => k < wE.heap.size) (w' := wE) (fun k hk => Nat.lt_of_lt_of_le hk hb.size) (fun k hk => hb.block k hk) GE2.out);replace B := Lib.hid (Below.step B.out hb);replace GN := Lib.hid (RepBs.on (S' := fun k => k < wE.heap.size) (w' := wE) (fun k hk => Nat.lt_of_lt_of_le hk hb.size) (fun k hk => hb.block k hk) GN.out);generalize envZ other = O at *;obtain ⟨oa, oc, rfl⟩ := SlG.form hr;have GO : Hid (RepBs (fun k => k < wE.heap.size) wE O (.slice oa O.length oc)) := RepBs.on (fun k hk => hk.2) (fun _ _ => rfl) hr;clear hr hb GE2;go_upto_region 7 with fail
 go_loopw [12, 13, 14] (fun uv wv iv wr => ∃ (k : Nat) (T : List Tm) (M : List V), k ≤ l.length ∧ k ≤ 6 ∧ iv = .int .i64 (k : Int) ∧ Hid (T.length = M.length ∧ T.length = k) ∧ Hid (TwoR kdTm kdV wr wE.heap.size T uv M wv) ∧ Hid (Below wE.heap.size wE wr)) (fun _ _ iv _ => l.length - (intOf iv).toNat)
 case atStart => exact ⟨0, [], [], Nat.zero_le _, by omega, rfl, ⟨rfl, rfl⟩, TwoR.nil _ _, Below.refl _ _⟩
 case round =>
  obtain ⟨k, T, M, hk, hk6, rfl, hlen, hrow, hb⟩ := hrel
  by_cases hlt : k < l.length ∧ k < 6
  ·obtain ⟨hlt, hlt6⟩ := hlt
   have HKL := Lib.hid hlt; have HK6 := Lib.hid hlt6
   have HLE := hlen; have RW := hrow; have HB := hb
   clear hlen hrow hb;have hLW : RepMs (fun b => b < wE.heap.size) wr l (.slice la l.length lc) := RepMs.on (fun _ h => h) (fun b hb' => HB.out.block b hb') GL.out;obtain ⟨-, -, lb, lo, fa, fc, xa, xc, rfl, hlb, g0, g1, g2, g3, g4, g5, g6, g⟩ := RepMs.at hLW k hlt;have G := Lib.hid g;have hk1 : (0 : Int) ≤ (k : Int) := Int.natCast_nonneg k;have hk2 : (k : Int) < (l.length : Int) := by omega
   have k1 : decide ((k : Int) < (l.length : Int)) = true := decide_eq_true hk2;have k2 : decide ((k : Int) < 6) = true := decide_eq_true (by omega);have k3 : decide (k < l.length) = true := decide_eq_true hlt;have k4 : decide (k < 6) = true := decide_eq_true hlt6;clear g hLW hlb;generalize l[k] = t at *;clear hk hk6 hlt hlt6;go_wp2_with fail
   refine (term4_any t (fun b => b < wE.heap.size) wr _ _ _ _ _ _ _ (fun b hb' => Nat.lt_of_lt_of_le hb' HB.out.size) G.out).mono ?_;rintro e w2 ⟨y0, y1, y2, y3, y4, y5, y6, rfl, hr, hb⟩;generalize fitTm 4 t = u at *;obtain ⟨ufa, ufc, uxa, uxc, rfl, rfl, rfl, rfl, rfl, rfl, rfl⟩ := hr.form;have GU : Hid (RepM (fun b => wr.heap.size ≤ b ∧ b < w2.heap.size) w2 u (.int .i64 u.kind) (.string u.name) (.int .i64 u.val.kind) (.int .i64 u.val.num) (.string u.val.text) (.slice ufa u.val.list.length ufc) (.slice uxa u.args.length uxc)) := hr;have B2 : Hid (Below wr.heap.size wr w2) := hb;clear hr hb g0 g1 g2 g3 g4 g5 g6 k1 k2 k3 k4 G;have mz := alloc_new' w2 (.cells #[.int .i64 u.kind, .string u.name, .int .i64 u.val.kind, .int .i64 u.val.num, .string u.val.text, .slice ufa u.val.list.length ufc, .slice uxa u.args.length uxc] 30);have dz := below_alloc w2 (.cells #[.int .i64 u.kind, .string u.name, .int .i64 u.val.kind, .int .i64 u.val.num, .string u.val.text, .slice ufa u.val.list.length ufc, .slice uxa u.args.length uxc] 30);go_upto_region 10 with fail
   have GU3 : Hid (RepM (fun b => wr.heap.size ≤ b ∧ b < w2.heap.size) (w2.alloc (.cells #[.int .i64 u.kind, .string u.name, .int .i64 u.val.kind, .int .i64 u.val.num, .string u.val.text, .slice ufa u.val.list.length ufc, .slice uxa u.args.length uxc] 30)) u (.int .i64 u.kind) (.string u.name) (.int .i64 u.val.kind) (.int .i64 u.val.num) (.string u.val.text) (.slice ufa u.val.list.length ufc) (.slice uxa u.args.length uxc)) := RepM.on (fun _ h => h) (fun b hb => dz.block b hb.2) _ GU.out;have B3 : Hid (Below wr.heap.size wr (w2.alloc (.cells #[.int .i64 u.kind, .string u.name, .int .i64 u.val.kind, .int .i64 u.val.num, .string u.val.text, .slice ufa u.val.list.length ufc, .slice uxa u.args.length uxc] 30))) := Below.step B2.out dz;have S3 : Hid (w2.heap.size ≤ (w2.alloc (.cells #[.int .i64 u.kind, .string u.name, .int .i64 u.val.kind, .int .i64 u.val.num, .string u.val.text, .slice ufa u.val.list.length ufc, .slice uxa u.args.length uxc] 30)).heap.size) := dz.size;obtain ⟨ku, hku⟩ : ∃ k, w2.heap.size = k := ⟨_, rfl⟩;rw [hku] at mz GU3 S3;have HKU : Hid (wr.heap.size ≤ ku) := by show _ ≤ _; rw [← hku]; exact B2.out.size
   try rw [hku]
   clear hku dz GU B2;generalize w2.alloc (.cells #[.int .i64 u.kind, .string u.name, .int .i64 u.val.kind, .int .i64 u.val.num, .string u.val.text, .slice ufa u.val.list.length ufc, .slice uxa u.args.length uxc] 30) = w3 at *;have MU := Lib.hid mz;clear mz;have GN3 : Hid (RepBs (fun b => b < wE.heap.size) w3 O (.slice oa O.length oc)) := RepBs.on (fun _ h => h) (fun b hb' => (B3.out.block b (Nat.lt_of_lt_of_le hb' HB.out.size)).trans (HB.out.block b hb')) GO.out;have p0 := cell_of_block' (i := 0) MU.out _ rfl;have p1 := cell_of_block' (i := 1) MU.out _ rfl;have p2 := cell_of_block' (i := 2) MU.out _ rfl;have p3 := cell_of_block' (i := 3) MU.out _ rfl;have p4 := cell_of_block' (i := 4) MU.out _ rfl;have p5 := cell_of_block' (i := 5) MU.out _ rfl;have p6 := cell_of_block' (i := 6) MU.out _ rfl;go_wp2_with fail
   refine (Eval_any u O (fun b => b < w3.heap.size) w3 _ _ _ _ _ _ _ _ (fun _ h => h) (RepBs.on (fun b hb' => Nat.lt_of_lt_of_le hb' (Nat.le_trans HB.out.size B3.out.size)) (fun _ _ => rfl) GN3.out) (RepM.on (fun b hb' => Nat.lt_of_lt_of_le hb'.2 S3.out) (fun _ _ => rfl) _ GU3.out)).mono ?_;rintro e w4 ⟨y0, y1, y2, y3, rfl, hr, hb⟩;obtain ⟨r, hrr⟩ : ∃ r, evalM O u = r := ⟨_, rfl⟩;rw [hrr] at hr
   try rw [hrr]
   clear hrr;obtain ⟨va, vcc, rfl, rfl, rfl, rfl⟩ := hr.form;obtain ⟨v, hv⟩ : ∃ v, r.getD zeroV = v := ⟨_, rfl⟩;rw [hv] at hr
   try rw [hv]
   clear hv;have GV4 : Hid (RepG (fun b => w3.heap.size ≤ b ∧ b < w4.heap.size) w4 v (.int .i64 v.kind) (.int .i64 v.num) (.string v.text) (.slice va v.list.length vcc)) := hr;have GU4 : Hid (RepM (fun b => wr.heap.size ≤ b ∧ b < ku) w4 u (.int .i64 u.kind) (.string u.name) (.int .i64 u.val.kind) (.int .i64 u.val.num) (.string u.val.text) (.slice ufa u.val.list.length ufc) (.slice uxa u.args.length uxc)) := RepM.on (fun _ h => h) (fun b hb' => hb.block b (Nat.lt_of_lt_of_le hb'.2 S3.out)) _ GU3.out;have MU4 := Lib.hid ((hb.block _ (Array.getElem?_eq_some_iff.1 MU.out).1).trans MU.out);have HUK : Hid (ku < w3.heap.size) := (Array.getElem?_eq_some_iff.1 MU.out).1;have B4 := Lib.hid (Below.step B3.out hb);have S4 : Hid (ku ≤ w3.heap.size ∧ w3.heap.size ≤ w4.heap.size ∧ wr.heap.size ≤ w3.heap.size) := ⟨S3.out, hb.size, B3.out.size⟩;clear hr hb p0 p1 p2 p3 p4 p5 p6 GU3 MU B3 S3 GN3;have mz := alloc_new' w4 (.cells #[.int .i64 v.kind, .int .i64 v.num, .string v.text, .slice va v.list.length vcc] 28);have dz := below_alloc w4 (.cells #[.int .i64 v.kind, .int .i64 v.num, .string v.text, .slice va v.list.length vcc] 28);go_upto_region 11 with fail
   have GV5 : Hid (RepG (fun b => w3.heap.size ≤ b ∧ b < w4.heap.size) (w4.alloc (.cells #[.int .i64 v.kind, .int .i64 v.num, .string v.text, .slice va v.list.length vcc] 28)) v (.int .i64 v.kind) (.int .i64 v.num) (.string v.text) (.slice va v.list.length vcc)) := RepG.on (fun _ h => h) (fun b hb' => dz.block b hb'.2) _ GV4.out;have GU5 : Hid (RepM (fun b => wr.heap.size ≤ b ∧ b < ku) (w4.alloc (.cells #[.int .i64 v.kind, .int .i64 v.num, .string v.text, .slice va v.list.length vcc] 28)) u (.int .i64 u.kind) (.string u.name) (.int .i64 u.val.kind) (.int .i64 u.val.num) (.string u.val.text) (.slice ufa u.val.list.length ufc) (.slice uxa u.args.length uxc)) := RepM.on (fun _ h => h) (fun b hb' => dz.block b (by have := S4.out; omega)) _ GU4.out;have MU5 := Lib.hid ((dz.block _ (Array.getElem?_eq_some_iff.1 MU4.out).1).trans MU4.out);have B5 := Lib.hid (Below.step B4.out dz);have S5 : Hid (w4.heap.size ≤ (w4.alloc (.cells #[.int .i64 v.kind, .int .i64 v.num, .string v.text, .slice va v.list.length vcc] 28)).heap.size) := dz.size;obtain ⟨kv, hkv⟩ : ∃ k, w4.heap.size = k := ⟨_, rfl⟩;rw [hkv] at mz GV5 S4 S5
   try rw [hkv]
   clear hkv dz GV4 GU4 MU4 B4;generalize w4.alloc (.cells #[.int .i64 v.kind, .int .i64 v.num, .string v.text, .slice va v.list.length vcc] 28) = w5 at *;have MV := Lib.hid mz;clear mz;obtain ⟨⟨ta, tcp, rfl⟩, ma, mc, rfl⟩ := RW.out.form;have hk1 : (0 : Int) ≤ (k : Int) := Int.natCast_nonneg k
   cases r with
   | some z' =>
    simp only [Option.isSome_some] at *
    have R5 : TwoR kdTm kdV w5 wE.heap.size T (.slice ta T.length tcp) M (.slice ma M.length mc) := RW.out.on B5.out;have hl5 := RW.out.lies;have d6 := below_alloc w5 (.cells #[.int .i64 u.kind, .string u.name, .int .i64 u.val.kind, .int .i64 u.val.num, .string u.val.text, .slice ufa u.val.list.length ufc, .slice uxa u.args.length uxc] 30);have hS6 : wE.heap.size ≤ wr.heap.size := HB.out.size
    obtain ⟨a6, c6, w6, hrun6, hrow6, hb6, hs6, hk6, ho6⟩ := TwoR.left (y := u) (c := at7n (.int .i64 u.kind) (.string u.name) (.int .i64 u.val.kind) (.int .i64 u.val.num) (.string u.val.text) (.slice ufa u.val.list.length ufc) (.slice uxa u.args.length uxc)) (R5.on d6) (by have := B5.out.size; have := d6.size; omega) (by have := HLE.out; have := HK6.out; omega) (alloc_new' w5 (.cells #[.int .i64 u.kind, .string u.name, .int .i64 u.val.kind, .int .i64 u.val.num, .string u.val.text, .slice ufa u.val.list.length ufc, .slice uxa u.args.length uxc] 30)) (fun j hj => match j, hj with | 0, _ => rfl | 1, _ => rfl | 2, _ => rfl | 3, _ => rfl | 4, _ => rfl | 5, _ => rfl | 6, _ => rfl)
     (show RepM (TwoS _ _ _ _) _ u _ _ _ _ _ _ _ from RepM.on (fun b hb' => ⟨by omega, by have := S4.out; have := S5.out; have := d6.size; omega, fun e => by have := (hl5.1 b e).2; omega, fun e => by have := (hl5.2 b e).2; omega⟩) (fun b hb' => d6.block b (by have := S4.out; have := S5.out; omega)) _ GU5.out) 22
    have HRUN6 := Lib.hid hrun6;have H6 : Hid (Below wE.heap.size wE w6) := (Below.step (Below.step HB.out B5.out) d6).trans hb6;have hkv : kv < w5.heap.size := (Array.getElem?_eq_some_iff.1 MV.out).1;have sz6 := World.size_alloc w5 (.cells #[.int .i64 u.kind, .string u.name, .int .i64 u.val.kind, .int .i64 u.val.num, .string u.val.text, .slice ufa u.val.list.length ufc, .slice uxa u.args.length uxc] 30);have MV6 : Hid (w6.heap[kv]? = _) := (hk6 kv (by omega) (fun e => by have := (hl5.1 kv e).2; have := S4.out; omega)).trans ((d6.block kv hkv).trans MV.out);have GV6 : Hid (RepG (fun b => w3.heap.size ≤ b ∧ b < kv) w6 v (.int .i64 v.kind) (.int .i64 v.num) (.string v.text) (.slice va v.list.length vcc)) := RepG.on (fun _ h => h) (fun b hb' => (hk6 b (by have := S5.out; omega) (fun e => by have := (hl5.1 b e).2; have := S4.out; omega)).trans (d6.block b (by have := S5.out; omega))) _ GV5.out;have d7 := below_alloc w6 (.cells #[.int .i64 v.kind, .int .i64 v.num, .string v.text, .slice va v.list.length vcc] 28)
    obtain ⟨a7, c7, w7, hrun7, hrow7, hb7, hs7, hk7, ho7⟩ := TwoR.left (y := v) (c := at4v (.int .i64 v.kind) (.int .i64 v.num) (.string v.text) (.slice va v.list.length vcc)) (hrow6.swap.on d7) (by have := d7.size; have := d6.size; have := B5.out.size; omega) (by have := HLE.out; have := HK6.out; omega) (alloc_new' w6 (.cells #[.int .i64 v.kind, .int .i64 v.num, .string v.text, .slice va v.list.length vcc] 28)) (fun j hj => match j, hj with | 0, _ => rfl | 1, _ => rfl | 2, _ => rfl | 3, _ => rfl)
     (show RepG (TwoS _ _ _ _) _ v _ _ _ _ from RepG.on (fun b hb' => ⟨by have := S4.out; omega, by have := S5.out; have := d7.size; omega, fun e => by have := (hl5.2 b e).2; have := S4.out; omega, fun e => by
      rcases ho6 with ho6 | ho6
      ·have := (hl5.1 b (ho6.symm.trans e)).2; have := S4.out; omega
      ·rw [ho6] at e; have := Option.some.inj e; have := S5.out; omega⟩) (fun b hb' => d7.block b (by have := S5.out; omega)) _ GV6.out) 23
    have HRUN7 := Lib.hid hrun7;have H7 : Hid (Below wE.heap.size wE w7) := (Below.step H6.out d7).trans hb7;have HROW := Lib.hid hrow7.swap;have q0 := cell_of_block' (i := 0) MU5.out _ rfl; have q1 := cell_of_block' (i := 1) MU5.out _ rfl; have q2 := cell_of_block' (i := 2) MU5.out _ rfl; have q3 := cell_of_block' (i := 3) MU5.out _ rfl; have q4 := cell_of_block' (i := 4) MU5.out _ rfl; have q5 := cell_of_block' (i := 5) MU5.out _ rfl; have q6 := cell_of_block' (i := 6) MU5.out _ rfl
    have r0 := cell_of_block' (i := 0) MV6.out _ rfl; have r1 := cell_of_block' (i := 1) MV6.out _ rfl; have r2 := cell_of_block' (i := 2) MV6.out _ rfl; have r3 := cell_of_block' (i := 3) MV6.out _ rfl
    clear R5 hl5 d6 hS6 hrun6 hrow6 hb6 hs6 hk6 ho6 hkv sz6 d7 hrun7 hrow7 hb7 hs7 hk7 ho7 MV MU5 GV5 GU5 B5 S4 S5 MV6 GV6;go_wp2_with (first | (at_builtin; refine wpList_append_by rfl _ _ _ rfl rfl rfl HRUN6.out ?_; clear HRUN6) | (at_builtin; refine wpList_append_by rfl _ _ _ rfl rfl rfl HRUN7.out ?_; clear HRUN7))
    go_roundw
    case rel => exact ⟨k + 1, T ++ [u], M ++ [v], HKL.out, HK6.out, by go_num, ⟨by rw [List.length_append, List.length_append, HLE.out.1]; rfl, by rw [List.length_append, List.length_singleton, HLE.out.2]⟩, HROW, H7⟩
    case measure => have := HKL.out; simp [intOf]; omega
   | none =>
    simp only [Option.isSome_none] at *
    by_cases hq : k < q.length
    ·have HQL := Lib.hid hq
     have hq2 : (k : Int) < (q.length : Int) := by omega
     have j1 : decide ((k : Int) < (q.length : Int)) = true := decide_eq_true hq2;have j2 : decide (k < q.length) = true := decide_eq_true hq;have hQW : SlG (fun b => b < wE.heap.size) w5 kdV.n kdV.bytes (kdV.R (fun b => b < wE.heap.size) w5) q (.slice qa q.length qc) := SlG.on (fun _ h => h) (fun b hb' => (B5.out.block b (Nat.lt_of_lt_of_le hb' HB.out.size)).trans (HB.out.block b hb')) (fun _ _ _ h => kdV.on (fun _ h => h) (fun b hb' => (B5.out.block b (Nat.lt_of_lt_of_le hb' HB.out.size)).trans (HB.out.block b hb')) h) (slg_of_lg GQ.out);obtain ⟨-, -, qb, qo, rfl, hqb, c, hcc, hx⟩ := SlG.at hQW k hq;have hx' : RepG (fun b => b < wE.heap.size) w5 q[k] (c 0) (c 1) (c 2) (c 3) := hx;obtain ⟨xxa, xxc, e0, e1, e2, e3⟩ := hx'.form;rw [e0, e1, e2, e3] at hx';have n0 := hcc 0 (by decide); have n1 := hcc 1 (by decide); have n2 := hcc 2 (by decide); have n3 := hcc 3 (by decide)
     rw [e0] at n0; rw [e1] at n1; rw [e2] at n2; rw [e3] at n3
     have N0 : w5.cell? ⟨qb, qo + k * 4, none⟩ = some (.int .i64 q[k].kind) := n0;have N1 : w5.cell? ⟨qb, qo + k * 4 + 1, none⟩ = some (.int .i64 q[k].num) := n1;have N2 : w5.cell? ⟨qb, qo + k * 4 + 2, none⟩ = some (.string q[k].text) := n2;have N3 : w5.cell? ⟨qb, qo + k * 4 + 3, none⟩ = some (.slice xxa q[k].list.length xxc) := n3;have HX := Lib.hid hx';clear n0 n1 n2 n3 hcc hx hx' e0 e1 e2 e3 c hQW hqb;generalize q[k] = x at *;clear hq;go_wp2_with fail
     refine (Fit_any x w5.heap.size w5 _ _ _ _ (Nat.le_refl _) (RepG.on (fun b hb' => Nat.lt_of_lt_of_le hb' (Nat.le_trans HB.out.size B5.out.size)) (fun _ _ => rfl) _ HX.out)).mono ?_;rintro e w6 ⟨y0, y1, y2, y3, rfl, hr, hb⟩;generalize fitV 4 x = y at *;obtain ⟨yya, yyc, rfl, rfl, rfl, rfl⟩ := hr.form;have hkv5 : kv < w5.heap.size := (Array.getElem?_eq_some_iff.1 MV.out).1;have MV6 : Hid (w6.heap[kv]? = _) := (hb.block _ hkv5).trans MV.out;have MU6 : Hid (w6.heap[ku]? = _) := (hb.block _ (Array.getElem?_eq_some_iff.1 MU5.out).1).trans MU5.out;have GU6 : Hid (RepM (fun b => wr.heap.size ≤ b ∧ b < ku) w6 u (.int .i64 u.kind) (.string u.name) (.int .i64 u.val.kind) (.int .i64 u.val.num) (.string u.val.text) (.slice ufa u.val.list.length ufc) (.slice uxa u.args.length uxc)) := RepM.on (fun _ h => h) (fun b hb' => hb.block b (by have := S4.out; have := S5.out; omega)) _ GU5.out;have B6 := Lib.hid (Below.step B5.out hb);have GY : Hid (RepG (fun b => w5.heap.size ≤ b ∧ b < w6.heap.size) w6 y (.int .i64 y.kind) (.int .i64 y.num) (.string y.text) (.slice yya y.list.length yyc)) := hr;have S6 : Hid (kv < w5.heap.size ∧ w5.heap.size ≤ w6.heap.size) := ⟨hkv5, hb.size⟩;clear hr hb hkv5 MV MU5 GU5 B5 GV5 N0 N1 N2 N3 HX j1 j2 S5;obtain ⟨r0, r1, r2, r3⟩ : w6.cell? ⟨kv, 0, none⟩ = some (.int .i64 v.kind) ∧ w6.cell? ⟨kv, 1, none⟩ = some (.int .i64 v.num) ∧ w6.cell? ⟨kv, 2, none⟩ = some (.string v.text) ∧ w6.cell? ⟨kv, 3, none⟩ = some (.slice va v.list.length vcc) := ⟨cell_of_block' MV6.out _ rfl, cell_of_block' MV6.out _ rfl, cell_of_block' MV6.out _ rfl, cell_of_block' MV6.out _ rfl⟩;have z0 := frozen_of_row w6 kv 0 _ _ MV6.out; have z1 := frozen_of_row w6 kv 1 _ _ MV6.out; have z2 := frozen_of_row w6 kv 2 _ _ MV6.out; have z3 := frozen_of_row w6 kv 3 _ _ MV6.out
     go_upto_region 13 with fail
     have hoth : ∀ b, b ≠ kv → (((((w6.setCell ⟨kv, 0, none⟩ (.int .i64 y.kind)).setCell ⟨kv, 1, none⟩ (.int .i64 y.num)).setCell ⟨kv, 2, none⟩ (.string y.text)).setCell ⟨kv, 3, none⟩ (.slice yya y.list.length yyc))).heap[b]? = w6.heap[b]? := fun b hb => by rw [Below.heap_setCell _ _ _ _ hb, Below.heap_setCell _ _ _ _ hb, Below.heap_setCell _ _ _ _ hb, Below.heap_setCell _ _ _ _ hb]
     have MV : Hid ((((((w6.setCell ⟨kv, 0, none⟩ (.int .i64 y.kind)).setCell ⟨kv, 1, none⟩ (.int .i64 y.num)).setCell ⟨kv, 2, none⟩ (.string y.text)).setCell ⟨kv, 3, none⟩ (.slice yya y.list.length yyc))).heap[kv]? = some (.cells #[.int .i64 y.kind, .int .i64 y.num, .string y.text, .slice yya y.list.length yyc] 28 (0, 0))) := heap_setCell_same _ _ _ _ _ _ (heap_setCell_same _ _ _ _ _ _ (heap_setCell_same _ _ _ _ _ _ (heap_setCell_same _ _ _ _ _ _ MV6.out)));have hsz7 : (((((w6.setCell ⟨kv, 0, none⟩ (.int .i64 y.kind)).setCell ⟨kv, 1, none⟩ (.int .i64 y.num)).setCell ⟨kv, 2, none⟩ (.string y.text)).setCell ⟨kv, 3, none⟩ (.slice yya y.list.length yyc))).heap.size = w6.heap.size := by simp [World.setCell]
     have B5 : Hid (Below wr.heap.size wr (((((w6.setCell ⟨kv, 0, none⟩ (.int .i64 y.kind)).setCell ⟨kv, 1, none⟩ (.int .i64 y.num)).setCell ⟨kv, 2, none⟩ (.string y.text)).setCell ⟨kv, 3, none⟩ (.slice yya y.list.length yyc)))) := stored_below (k := kv) (by have := S4.out; omega) B6.out _ _ _ _;clear r0 r1 r2 r3 z0 z1 z2 z3 MV6 B6;generalize ((((w6.setCell ⟨kv, 0, none⟩ (.int .i64 y.kind)).setCell ⟨kv, 1, none⟩ (.int .i64 y.num)).setCell ⟨kv, 2, none⟩ (.string y.text)).setCell ⟨kv, 3, none⟩ (.slice yya y.list.length yyc)) = w7 at *;have MU5 : Hid (w7.heap[ku]? = _) := (hoth ku (by have := S4.out; have := HUK.out; omega)).trans MU6.out;have GU5 : Hid (RepM (fun b => wr.heap.size ≤ b ∧ b < ku) w7 u (.int .i64 u.kind) (.string u.name) (.int .i64 u.val.kind) (.int .i64 u.val.num) (.string u.val.text) (.slice ufa u.val.list.length ufc) (.slice uxa u.args.length uxc)) := RepM.on (fun _ h => h) (fun b hb' => hoth b (by have := S4.out; omega)) _ GU6.out;have GV5 : Hid (RepG (fun b => w3.heap.size ≤ b ∧ b < w7.heap.size) w7 y (.int .i64 y.kind) (.int .i64 y.num) (.string y.text) (.slice yya y.list.length yyc)) := RepG.on (fun b hb' => ⟨by have := S4.out; have := S6.out; omega, by omega⟩) (fun b hb' => hoth b (by have := S6.out; omega)) _ GY.out;have S5 : Hid (kv ≤ w7.heap.size) := by show _ ≤ _; have := S6.out; omega
     clear hoth hsz7 MU6 GU6 GY S6;generalize w7 = wq at *;have R5 : TwoR kdTm kdV wq wE.heap.size T (.slice ta T.length tcp) M (.slice ma M.length mc) := RW.out.on B5.out;have hl5 := RW.out.lies;have d6 := below_alloc wq (.cells #[.int .i64 u.kind, .string u.name, .int .i64 u.val.kind, .int .i64 u.val.num, .string u.val.text, .slice ufa u.val.list.length ufc, .slice uxa u.args.length uxc] 30);have hS6 : wE.heap.size ≤ wr.heap.size := HB.out.size
     obtain ⟨a6, c6, w6, hrun6, hrow6, hb6, hs6, hk6, ho6⟩ := TwoR.left (y := u) (c := at7n (.int .i64 u.kind) (.string u.name) (.int .i64 u.val.kind) (.int .i64 u.val.num) (.string u.val.text) (.slice ufa u.val.list.length ufc) (.slice uxa u.args.length uxc)) (R5.on d6) (by have := B5.out.size; have := d6.size; omega) (by have := HLE.out; have := HK6.out; omega) (alloc_new' wq (.cells #[.int .i64 u.kind, .string u.name, .int .i64 u.val.kind, .int .i64 u.val.num, .string u.val.text, .slice ufa u.val.list.length ufc, .slice uxa u.args.length uxc] 30)) (fun j hj => match j, hj with | 0, _ => rfl | 1, _ => rfl | 2, _ => rfl | 3, _ => rfl | 4, _ => rfl | 5, _ => rfl | 6, _ => rfl)
      (show RepM (TwoS _ _ _ _) _ u _ _ _ _ _ _ _ from RepM.on (fun b hb' => ⟨by omega, by have := S4.out; have := S5.out; have := d6.size; omega, fun e => by have := (hl5.1 b e).2; omega, fun e => by have := (hl5.2 b e).2; omega⟩) (fun b hb' => d6.block b (by have := S4.out; have := S5.out; omega)) _ GU5.out) 22
     have HRUN6 := Lib.hid hrun6;have H6 : Hid (Below wE.heap.size wE w6) := (Below.step (Below.step HB.out B5.out) d6).trans hb6;have hkv : kv < wq.heap.size := (Array.getElem?_eq_some_iff.1 MV.out).1;have sz6 := World.size_alloc wq (.cells #[.int .i64 u.kind, .string u.name, .int .i64 u.val.kind, .int .i64 u.val.num, .string u.val.text, .slice ufa u.val.list.length ufc, .slice uxa u.args.length uxc] 30);have MV6 : Hid (w6.heap[kv]? = _) := (hk6 kv (by omega) (fun e => by have := (hl5.1 kv e).2; have := S4.out; omega)).trans ((d6.block kv hkv).trans MV.out);have GV6 : Hid (RepG (fun b => w3.heap.size ≤ b ∧ b < wq.heap.size) w6 y (.int .i64 y.kind) (.int .i64 y.num) (.string y.text) (.slice yya y.list.length yyc)) := RepG.on (fun _ h => h) (fun b hb' => (hk6 b (by have := S5.out; omega) (fun e => by have := (hl5.1 b e).2; have := S4.out; omega)).trans (d6.block b (by have := S5.out; omega))) _ GV5.out;have d7 := below_alloc w6 (.cells #[.int .i64 y.kind, .int .i64 y.num, .string y.text, .slice yya y.list.length yyc] 28)
     obtain ⟨a7, c7, w7, hrun7, hrow7, hb7, hs7, hk7, ho7⟩ := TwoR.left (y := y) (c := at4v (.int .i64 y.kind) (.int .i64 y.num) (.string y.text) (.slice yya y.list.length yyc)) (hrow6.swap.on d7) (by have := d7.size; have := d6.size; have := B5.out.size; omega) (by have := HLE.out; have := HK6.out; omega) (alloc_new' w6 (.cells #[.int .i64 y.kind, .int .i64 y.num, .string y.text, .slice yya y.list.length yyc] 28)) (fun j hj => match j, hj with | 0, _ => rfl | 1, _ => rfl | 2, _ => rfl | 3, _ => rfl)
      (show RepG (TwoS _ _ _ _) _ y _ _ _ _ from RepG.on (fun b hb' => ⟨by have := S4.out; omega, by have := S5.out; have := d7.size; omega, fun e => by have := (hl5.2 b e).2; have := S4.out; omega, fun e => by
       rcases ho6 with ho6 | ho6
       ·have := (hl5.1 b (ho6.symm.trans e)).2; have := S4.out; omega
       ·rw [ho6] at e; have := Option.some.inj e; have := S5.out; omega⟩) (fun b hb' => d7.block b (by have := S5.out; omega)) _ GV6.out) 23
     have HRUN7 := Lib.hid hrun7;have H7 : Hid (Below wE.heap.size wE w7) := (Below.step H6.out d7).trans hb7;have HROW := Lib.hid hrow7.swap;have q0 := cell_of_block' (i := 0) MU5.out _ rfl; have q1 := cell_of_block' (i := 1) MU5.out _ rfl; have q2 := cell_of_block' (i := 2) MU5.out _ rfl; have q3 := cell_of_block' (i := 3) MU5.out _ rfl; have q4 := cell_of_block' (i := 4) MU5.out _ rfl; have q5 := cell_of_block' (i := 5) MU5.out _ rfl; have q6 := cell_of_block' (i := 6) MU5.out _ rfl
     have r0 := cell_of_block' (i := 0) MV6.out _ rfl; have r1 := cell_of_block' (i := 1) MV6.out _ rfl; have r2 := cell_of_block' (i := 2) MV6.out _ rfl; have r3 := cell_of_block' (i := 3) MV6.out _ rfl
     clear R5 hl5 d6 hS6 hrun6 hrow6 hb6 hs6 hk6 ho6 hkv sz6 d7 hrun7 hrow7 hb7 hs7 hk7 ho7 MV MU5 GV5 GU5 B5 S4 S5 MV6 GV6;go_wp2_with (first | (at_builtin; refine wpList_append_by rfl _ _ _ rfl rfl rfl HRUN6.out ?_; clear HRUN6) | (at_builtin; refine wpList_append_by rfl _ _ _ rfl rfl rfl HRUN7.out ?_; clear HRUN7))
     go_roundw
     case rel => exact ⟨k + 1, T ++ [u], M ++ [y], HKL.out, HK6.out, by go_num, ⟨by rw [List.length_append, List.length_append, HLE.out.1]; rfl, by rw [List.length_append, List.length_singleton, HLE.out.2]⟩, HROW, H7⟩
     case measure => have := HKL.out; simp [intOf]; omega
    ·have j1 : decide ((k : Int) < (q.length : Int)) = false := decide_eq_false (by omega)
     have j2 : decide (k < q.length) = false := decide_eq_false hq;clear hq;have R5 : TwoR kdTm kdV w5 wE.heap.size T (.slice ta T.length tcp) M (.slice ma M.length mc) := RW.out.on B5.out;have hl5 := RW.out.lies;have d6 := below_alloc w5 (.cells #[.int .i64 u.kind, .string u.name, .int .i64 u.val.kind, .int .i64 u.val.num, .string u.val.text, .slice ufa u.val.list.length ufc, .slice uxa u.args.length uxc] 30);have hS6 : wE.heap.size ≤ wr.heap.size := HB.out.size
     obtain ⟨a6, c6, w6, hrun6, hrow6, hb6, hs6, hk6, ho6⟩ := TwoR.left (y := u) (c := at7n (.int .i64 u.kind) (.string u.name) (.int .i64 u.val.kind) (.int .i64 u.val.num) (.string u.val.text) (.slice ufa u.val.list.length ufc) (.slice uxa u.args.length uxc)) (R5.on d6) (by have := B5.out.size; have := d6.size; omega) (by have := HLE.out; have := HK6.out; omega) (alloc_new' w5 (.cells #[.int .i64 u.kind, .string u.name, .int .i64 u.val.kind, .int .i64 u.val.num, .string u.val.text, .slice ufa u.val.list.length ufc, .slice uxa u.args.length uxc] 30)) (fun j hj => match j, hj with | 0, _ => rfl | 1, _ => rfl | 2, _ => rfl | 3, _ => rfl | 4, _ => rfl | 5, _ => rfl | 6, _ => rfl)
      (show RepM (TwoS _ _ _ _) _ u _ _ _ _ _ _ _ from RepM.on (fun b hb' => ⟨by omega, by have := S4.out; have := S5.out; have := d6.size; omega, fun e => by have := (hl5.1 b e).2; omega, fun e => by have := (hl5.2 b e).2; omega⟩) (fun b hb' => d6.block b (by have := S4.out; have := S5.out; omega)) _ GU5.out) 22
     have HRUN6 := Lib.hid hrun6;have H6 : Hid (Below wE.heap.size wE w6) := (Below.step (Below.step HB.out B5.out) d6).trans hb6;have hkv : kv < w5.heap.size := (Array.getElem?_eq_some_iff.1 MV.out).1;have sz6 := World.size_alloc w5 (.cells #[.int .i64 u.kind, .string u.name, .int .i64 u.val.kind, .int .i64 u.val.num, .string u.val.text, .slice ufa u.val.list.length ufc, .slice uxa u.args.length uxc] 30);have MV6 : Hid (w6.heap[kv]? = _) := (hk6 kv (by omega) (fun e => by have := (hl5.1 kv e).2; have := S4.out; omega)).trans ((d6.block kv hkv).trans MV.out);have GV6 : Hid (RepG (fun b => w3.heap.size ≤ b ∧ b < kv) w6 v (.int .i64 v.kind) (.int .i64 v.num) (.string v.text) (.slice va v.list.length vcc)) := RepG.on (fun _ h => h) (fun b hb' => (hk6 b (by have := S5.out; omega) (fun e => by have := (hl5.1 b e).2; have := S4.out; omega)).trans (d6.block b (by have := S5.out; omega))) _ GV5.out;have d7 := below_alloc w6 (.cells #[.int .i64 v.kind, .int .i64 v.num, .string v.text, .slice va v.list.length vcc] 28)
     obtain ⟨a7, c7, w7, hrun7, hrow7, hb7, hs7, hk7, ho7⟩ := TwoR.left (y := v) (c := at4v (.int .i64 v.kind) (.int .i64 v.num) (.string v.text) (.slice va v.list.length vcc)) (hrow6.swap.on d7) (by have := d7.size; have := d6.size; have := B5.out.size; omega) (by have := HLE.out; have := HK6.out; omega) (alloc_new' w6 (.cells #[.int .i64 v.kind, .int .i64 v.num, .string v.text, .slice va v.list.length vcc] 28)) (fun j hj => match j, hj with | 0, _ => rfl | 1, _ => rfl | 2, _ => rfl | 3, _ => rfl)
      (show RepG (TwoS _ _ _ _) _ v _ _ _ _ from RepG.on (fun b hb' => ⟨by have := S4.out; omega, by have := S5.out; have := d7.size; omega, fun e => by have := (hl5.2 b e).2; have := S4.out; omega, fun e => by
       rcases ho6 with ho6 | ho6
       ·have := (hl5.1 b (ho6.symm.trans e)).2; have := S4.out; omega
       ·rw [ho6] at e; have := Option.some.inj e; have := S5.out; omega⟩) (fun b hb' => d7.block b (by have := S5.out; omega)) _ GV6.out) 23
     have HRUN7 := Lib.hid hrun7;have H7 : Hid (Below wE.heap.size wE w7) := (Below.step H6.out d7).trans hb7;have HROW := Lib.hid hrow7.swap;have q0 := cell_of_block' (i := 0) MU5.out _ rfl; have q1 := cell_of_block' (i := 1) MU5.out _ rfl; have q2 := cell_of_block' (i := 2) MU5.out _ rfl; have q3 := cell_of_block' (i := 3) MU5.out _ rfl; have q4 := cell_of_block' (i := 4) MU5.out _ rfl; have q5 := cell_of_block' (i := 5) MU5.out _ rfl; have q6 := cell_of_block' (i := 6) MU5.out _ rfl
     have r0 := cell_of_block' (i := 0) MV6.out _ rfl; have r1 := cell_of_block' (i := 1) MV6.out _ rfl; have r2 := cell_of_block' (i := 2) MV6.out _ rfl; have r3 := cell_of_block' (i := 3) MV6.out _ rfl
     clear R5 hl5 d6 hS6 hrun6 hrow6 hb6 hs6 hk6 ho6 hkv sz6 d7 hrun7 hrow7 hb7 hs7 hk7 ho7 MV MU5 GV5 GU5 B5 S4 S5 MV6 GV6;go_wp2_with (first | (at_builtin; refine wpList_append_by rfl _ _ _ rfl rfl rfl HRUN6.out ?_; clear HRUN6) | (at_builtin; refine wpList_append_by rfl _ _ _ rfl rfl rfl HRUN7.out ?_; clear HRUN7))
     go_roundw
     case rel => exact ⟨k + 1, T ++ [u], M ++ [v], HKL.out, HK6.out, by go_num, ⟨by rw [List.length_append, List.length_append, HLE.out.1]; rfl, by rw [List.length_append, List.length_singleton, HLE.out.2]⟩, HROW, H7⟩
     case measure => have := HKL.out; simp [intOf]; omega
  ·obtain ⟨⟨ta, tcp, rfl⟩, ma, mc, rfl⟩ := hrow.out.form
   by_cases h1 : k < l.length
   ·have k1 : decide ((k : Int) < (l.length : Int)) = true := decide_eq_true (by omega)
    have k2 : decide ((k : Int) < 6) = false := decide_eq_false (by omega);have k3 : decide (k < l.length) = true := decide_eq_true (by omega);have k4 : decide (k < 6) = false := decide_eq_false (by omega);clear h1 hlt hk;have HLE := hlen;have GT : Hid (RepMs (fun b => b < wr.heap.size) wr T (.slice ta T.length tcp)) := hrow.out.slg (by have := hlen.out; omega);have GV : Hid (RepLG (fun b => b < wr.heap.size) wr M (.slice ma M.length mc)) := lg_of_slg (hrow.out.swap.slg (by have := hlen.out; omega));have HT6 : Hid (T.length ≤ 6) := by show _ ≤ _; have := hlen.out; omega
    replace GN := Lib.hid (RepBs.on (S' := fun k => k < wr.heap.size) (w' := wr) (fun k hk => Nat.lt_of_lt_of_le hk hb.out.size) (fun k hk => hb.out.block k hk) GN.out);replace B := Lib.hid (Below.step B.out hb.out);clear hrow hlen hb;obtain ⟨R, hR⟩ : ∃ R, matchZ T M E = R := ⟨_, rfl⟩;have HM := Lib.hid (Match_any T M E (fun k => k < wr.heap.size) wr _ _ _ (fun _ h => h) GT.out GV.out GN.out (by have := HEL.out; have := HT6.out; omega));rw [hR] at HM;go_wp2_with fail
    refine (HM.out).mono ?_;rintro e w5 ⟨hb, hc⟩;replace GN := Lib.hid (RepBs.on (S' := fun k => k < w5.heap.size) (w' := w5) (fun k hk => Nat.lt_of_lt_of_le hk hb.size) (fun k hk => hb.block k hk) GN.out);replace B := Lib.hid (Below.step B.out hb);replace GT := Lib.hid (RepMs.on (S' := fun k => k < w5.heap.size) (w' := w5) (fun k hk => Nat.lt_of_lt_of_le hk hb.size) (fun k hk => hb.block k hk) GT.out);replace GV := Lib.hid (RepLG.on (S' := fun k => k < w5.heap.size) (w' := w5) (fun k hk => Nat.lt_of_lt_of_le hk hb.size) (fun k hk => hb.block k hk) GV.out);clear HM;rcases hc with ⟨-, rfl⟩ | ⟨F, u, rfl, rfl, hu⟩
    ·go_wp2_with fail
     go_ret
     exact ⟨rfl, B.out⟩
    obtain ⟨f1, f2, f3, f4⟩ := match_facts hR;have HF1 := Lib.hid f1; have HF2 := Lib.hid f2; have HF3 := Lib.hid f3; have HF4 := Lib.hid f4
    have HFL : Hid (F.length ≤ 14) := by
     obtain ⟨-, hF, -⟩ := matchZ_some hR;have h := (withZ_len (T.zip M) E).2;rw [← hF, List.length_zip] at h;have := HEL.out; have := HT6.out
     show _ ≤ _; omega
    obtain ⟨na, nb0, nb1, nc, hnc, hcap, -⟩ := id hu;obtain rfl := hnc;have GF : Hid (RepBs (fun k => k < w5.heap.size) w5 F (.slice na F.length nc)) := RepBs.on (fun k hk => hk.2) (fun _ _ => rfl) hu;have hfe : RepBs (fun k => k < w5.heap.size) w5 (F.take E.length) (.slice na E.length nc) := SlG.front GF.out HF1.out;rw [HF2.out] at hfe;have GFE := Lib.hid hfe;clear hu hb f1 f2 f3 f4 hR hfe;have k1 : decide ((F.length : Int) < (E.length : Int)) = false := decide_eq_false (by have := HF1.out; omega);have k3 : decide (F.length < E.length) = false := decide_eq_false (by have := HF1.out; omega);have k5 : (E.length : Int) ≤ (nc : Int) := by have := HF1.out; omega
    have k6 : E.length ≤ nc := by have := HF1.out; omega
    have k7 : (0 : Int) ≤ (E.length : Int) := Int.natCast_nonneg _;clear hcap;go_wp2_with fail
    refine (same9_any E E (fun k => k < w5.heap.size) w5 _ _ (fun _ h => h) GFE.out GN.out).mono ?_;rintro e w6 ⟨rfl, hb⟩;replace GN := Lib.hid (RepBs.on (S' := fun k => k < w6.heap.size) (w' := w6) (fun k hk => Nat.lt_of_lt_of_le hk hb.size) (fun k hk => hb.block k hk) GN.out);replace B := Lib.hid (Below.step B.out hb);replace GT := Lib.hid (RepMs.on (S' := fun k => k < w6.heap.size) (w' := w6) (fun k hk => Nat.lt_of_lt_of_le hk hb.size) (fun k hk => hb.block k hk) GT.out);replace GV := Lib.hid (RepLG.on (S' := fun k => k < w6.heap.size) (w' := w6) (fun k hk => Nat.lt_of_lt_of_le hk hb.size) (fun k hk => hb.block k hk) GV.out);replace GF := Lib.hid (RepBs.on (S' := fun k => k < w6.heap.size) (w' := w6) (fun k hk => Nat.lt_of_lt_of_le hk hb.size) (fun k hk => hb.block k hk) GF.out);rw [sameE_self];clear hb GFE k1 k3 k5 k6 k7;have ht6 := HT6.out;go_upto_region 21 with fail
    go_loopw [20] (fun iv wr => ∃ i : Nat, i ≤ T.length ∧ iv = .int .i64 (i : Int) ∧ Hid (Below w6.heap.size w6 wr)) (fun iv _ => T.length - (intOf iv).toNat)
    case atStart => exact ⟨0, Nat.zero_le _, rfl, Below.refl _ _⟩
    case round =>
     obtain ⟨i, hi, rfl, hb⟩ := hrel
     by_cases hlt : i < T.length
     ·have hltm : i < M.length := by have := HLE.out; omega
      obtain ⟨y, hy, hz⟩ := HF3.out i hlt hltm;have HY := Lib.hid hy; have HZ := Lib.hid hz
      have hTW : RepMs (fun b => b < w6.heap.size) wr T (.slice ta T.length tcp) := RepMs.on (fun _ h => h) (fun b hb' => hb.out.block b hb') GT.out;obtain ⟨-, -, lb, lo, fa, fc, xa, xc, hga, hlb, g0, g1, g2, g3, g4, g5, g6, g⟩ := RepMs.at hTW i hlt;obtain ⟨-, -, mb, mo, hma, hmb, c, hcc, hx⟩ := SlG.at (slg_of_lg GV.out) i hltm;subst hga hma;have hx' : RepG (fun b => b < w6.heap.size) w6 M[i] (c 0) (c 1) (c 2) (c 3) := hx;obtain ⟨va, vc, e0, e1, e2, e3⟩ := hx'.form;rw [e0, e1, e2, e3] at hx';have n0 := hcc 0 (by decide); have n1 := hcc 1 (by decide); have n2 := hcc 2 (by decide); have n3 := hcc 3 (by decide)
      rw [e0] at n0; rw [e1] at n1; rw [e2] at n2; rw [e3] at n3
      have HMW : Hid (mb < w6.heap.size) := hmb;have N0 : Hid (w6.cell? ⟨mb, mo + i * 4, none⟩ = some (.int .i64 M[i].kind)) := n0;have N1 : Hid (w6.cell? ⟨mb, mo + i * 4 + 1, none⟩ = some (.int .i64 M[i].num)) := n1;have N2 : Hid (w6.cell? ⟨mb, mo + i * 4 + 2, none⟩ = some (.string M[i].text)) := n2;have N3 : Hid (w6.cell? ⟨mb, mo + i * 4 + 3, none⟩ = some (.slice va M[i].list.length vc)) := n3;have HX := Lib.hid hx'; have G := Lib.hid g
      have hk1 : (0 : Int) ≤ (i : Int) := Int.natCast_nonneg i;have hk2 : (i : Int) < (T.length : Int) := by omega
      have HK3 : Hid ((i : Int) < (M.length : Int)) := by show _ < _; omega
      have HKL := Lib.hid hlt;clear g hlb hmb n0 n1 n2 n3 hx' hx hcc e0 e1 e2 e3 c hTW hy hz;generalize T[i] = t at *;generalize M[i] = x at *;clear hi hlt hltm;go_wp2_with fail
      refine (Eval_any t F (fun b => b < w6.heap.size) wr _ _ _ _ _ _ _ _ (fun b hb' => Nat.lt_of_lt_of_le hb' hb.out.size) (RepBs.on (fun _ h => h) (fun b hb' => hb.out.block b hb') GF.out) G.out).mono ?_;rintro e w2 ⟨y0, y1, y2, y3, rfl, hr, hb2⟩;rw [HY.out] at hr
      try rw [HY.out]
      simp only [Option.isSome_some, Option.getD_some] at hr ⊢
      obtain ⟨ya, yc, rfl, rfl, rfl, rfl⟩ := hr.form;have HR := Lib.hid hr;have HB2 := Lib.hid (Below.step hb.out hb2);clear hr hb2 g0 g1 g2 g3 g4 g5 g6 hb G;have mA := alloc_new' w2 (.cells #[.int .i64 y.kind, .int .i64 y.num, .string y.text, .slice ya y.list.length yc] 28);have dA := below_alloc w2 (.cells #[.int .i64 y.kind, .int .i64 y.num, .string y.text, .slice ya y.list.length yc] 28);go_upto_region 24 with fail
      obtain ⟨kq, hkq⟩ : ∃ kq, w2.heap.size = kq := ⟨_, rfl⟩;have HB3 := Lib.hid (Below.step HB2.out dA);have HR3 : Hid (RepV (w2.alloc (.cells #[.int .i64 y.kind, .int .i64 y.num, .string y.text, .slice ya y.list.length yc] 28)).heap.size (w2.alloc (.cells #[.int .i64 y.kind, .int .i64 y.num, .string y.text, .slice ya y.list.length yc] 28)) y (.int .i64 y.kind) (.int .i64 y.num) (.string y.text) (.slice ya y.list.length yc)) := RepG.on (fun b hb' => Nat.lt_of_lt_of_le hb'.2 dA.size) (fun b hb' => dA.block b hb'.2) _ HR.out;have HX3 : Hid (RepV (w2.alloc (.cells #[.int .i64 y.kind, .int .i64 y.num, .string y.text, .slice ya y.list.length yc] 28)).heap.size (w2.alloc (.cells #[.int .i64 y.kind, .int .i64 y.num, .string y.text, .slice ya y.list.length yc] 28)) x (.int .i64 x.kind) (.int .i64 x.num) (.string x.text) (.slice va x.list.length vc)) := RepG.on (fun b hb' => Nat.lt_of_lt_of_le hb' HB3.out.size) (fun b hb' => HB3.out.block b hb') _ HX.out;have HKQ : Hid (kq < (w2.alloc (.cells #[.int .i64 y.kind, .int .i64 y.num, .string y.text, .slice ya y.list.length yc] 28)).heap.size) := by show _ < _; rw [World.size_alloc]; omega
      rw [hkq] at mA
      try rw [hkq]
      clear hkq dA HR HB2;generalize w2.alloc (.cells #[.int .i64 y.kind, .int .i64 y.num, .string y.text, .slice ya y.list.length yc] 28) = w3 at *;have p0 : w3.drew.cell? ⟨kq, 0, none⟩ = some (.int .i64 y.kind) := cell_of_block' (i := 0) mA _ rfl;have p1 : w3.drew.cell? ⟨kq, 1, none⟩ = some (.int .i64 y.num) := cell_of_block' (i := 1) mA _ rfl;have p2 : w3.drew.cell? ⟨kq, 2, none⟩ = some (.string y.text) := cell_of_block' (i := 2) mA _ rfl;have p3 : w3.drew.cell? ⟨kq, 3, none⟩ = some (.slice ya y.list.length yc) := cell_of_block' (i := 3) mA _ rfl;have n0 : w3.drew.cell? ⟨mb, mo + i * 4, none⟩ = some (.int .i64 x.kind) := (HB3.out.cell (p := ⟨mb, mo + i * 4, none⟩) HMW.out).trans N0.out;have n1 : w3.drew.cell? ⟨mb, mo + i * 4 + 1, none⟩ = some (.int .i64 x.num) := (HB3.out.cell (p := ⟨mb, mo + i * 4 + 1, none⟩) HMW.out).trans N1.out;have n2 : w3.drew.cell? ⟨mb, mo + i * 4 + 2, none⟩ = some (.string x.text) := (HB3.out.cell (p := ⟨mb, mo + i * 4 + 2, none⟩) HMW.out).trans N2.out;have n3 : w3.drew.cell? ⟨mb, mo + i * 4 + 3, none⟩ = some (.slice va x.list.length vc) := (HB3.out.cell (p := ⟨mb, mo + i * 4 + 3, none⟩) HMW.out).trans N3.out;have HRD : Hid (RepV w3.drew.heap.size w3.drew y (.int .i64 y.kind) (.int .i64 y.num) (.string y.text) (.slice ya y.list.length yc)) := RepG.on (w := w3) (w' := w3.drew) (fun _ h => h) (fun _ _ => rfl) _ HR3.out;have HXD : Hid (RepV w3.drew.heap.size w3.drew x (.int .i64 x.kind) (.int .i64 x.num) (.string x.text) (.slice va x.list.length vc)) := RepG.on (w := w3) (w' := w3.drew) (fun _ h => h) (fun _ _ => rfl) _ HX3.out;have HD3 : Hid (Below w6.heap.size w6 w3.drew) := Below.step HB3.out (Below.drew (Below.refl _ _));have hkq : kq < w3.drew.heap.size := HKQ.out;have hmb : mb < w3.drew.heap.size := Nat.lt_of_lt_of_le HMW.out HB3.out.size;have k3 := HK3.out;clear mA HB3 HR3 HX3 HKQ
      go_region_held3 (fun w' => w'.cell? ⟨kq, 0, none⟩ = some (.int .i64 y.kind) ∧ w'.cell? ⟨kq, 1, none⟩ = some (.int .i64 y.num) ∧ w'.cell? ⟨kq, 2, none⟩ = some (.string y.text) ∧ w'.cell? ⟨kq, 3, none⟩ = some (.slice ya y.list.length yc) ∧ w'.cell? ⟨mb, mo + i * 4, none⟩ = some (.int .i64 x.kind) ∧ w'.cell? ⟨mb, mo + i * 4 + 1, none⟩ = some (.int .i64 x.num) ∧ w'.cell? ⟨mb, mo + i * 4 + 2, none⟩ = some (.string x.text) ∧ w'.cell? ⟨mb, mo + i * 4 + 3, none⟩ = some (.slice va x.list.length vc))
       (first | (with_reducible exact ⟨(hb.cell (p := ⟨kq, 0, none⟩) hkq).trans p0, (hb.cell (p := ⟨kq, 1, none⟩) hkq).trans p1, (hb.cell (p := ⟨kq, 2, none⟩) hkq).trans p2, (hb.cell (p := ⟨kq, 3, none⟩) hkq).trans p3, (hb.cell (p := ⟨mb, mo + i * 4, none⟩) hmb).trans n0, (hb.cell (p := ⟨mb, mo + i * 4 + 1, none⟩) hmb).trans n1, (hb.cell (p := ⟨mb, mo + i * 4 + 2, none⟩) hmb).trans n2, (hb.cell (p := ⟨mb, mo + i * 4 + 3, none⟩) hmb).trans n3⟩) | (with_reducible exact ⟨p0, p1, p2, p3, n0, n1, n2, n3⟩))
       (first | (go_at_call 21; refine (cmp_any y x _ _ _ _ _ _ _ _ _ _ (Nat.le_refl _) HRD.out HXD.out).mono ?_; rintro e w4 ⟨he, hb⟩; rw [HZ.out] at he; subst he))
      all_goals
       go_wp2_with fail
       go_roundw
       case rel => exact ⟨i + 1, HKL.out, by go_num, Below.step HD3.out hb⟩
       case measure => have := HKL.out; simp [intOf]; omega
     ·have hkk : i = T.length := by omega
      clear hlt hi;subst hkk;replace GT := Lib.hid (RepMs.on (S' := fun k => k < wr.heap.size) (w' := wr) (fun k hk => Nat.lt_of_lt_of_le hk hb.out.size) (fun k hk => hb.out.block k hk) GT.out);replace GN := Lib.hid (RepBs.on (S' := fun k => k < wr.heap.size) (w' := wr) (fun k hk => Nat.lt_of_lt_of_le hk hb.out.size) (fun k hk => hb.out.block k hk) GN.out);replace GF := Lib.hid (RepBs.on (S' := fun k => k < wr.heap.size) (w' := wr) (fun k hk => Nat.lt_of_lt_of_le hk hb.out.size) (fun k hk => hb.out.block k hk) GF.out);replace B := Lib.hid (Below.step B.out hb.out);clear hb GV HF3;generalize wr = w7 at *;have hf63 := HFL.out;go_upto_region 27 with fail
      go_loopw [23] (fun iv wr => ∃ i : Nat, E.length ≤ i ∧ i ≤ F.length ∧ iv = .int .i64 (i : Int) ∧ Hid (Below w7.heap.size w7 wr)) (fun iv _ => F.length - (intOf iv).toNat)
      case atStart => exact ⟨E.length, Nat.le_refl _, HF1.out, rfl, Below.refl _ _⟩
      case round =>
       obtain ⟨i, hge, hi, rfl, hb⟩ := hrel
       by_cases hlt : i < F.length
       ·obtain ⟨hin, hno⟩ := HF4.out i hlt hge
        have HIN := Lib.hid hin; have HNO := Lib.hid hno
        have hFW : RepBs (fun b => b < w7.heap.size) w7 F (.slice na F.length nc) := GF.out;obtain ⟨-, -, eb, eo, fa, fc, hea, hSb, g0, -, -, -, -, -⟩ := RepBs.at hFW i hlt;subst hea;have G0 := Lib.hid g0;have HEB : Hid (eb < w7.heap.size) := hSb;have hk1 : (0 : Int) ≤ (i : Int) := Int.natCast_nonneg i;have hk2 : (i : Int) < (F.length : Int) := by omega
        have HKL := Lib.hid hlt; have HGE := Lib.hid hge
        clear hin hno hFW hSb g0;generalize F[i].1 = n at *;clear hlt hi hge;go_upto_region 31 with fail
        generalize wr = w8 at *;have HB8 := hb;clear hb;go_loopw [24, 25] (fun bv jv wz => ∃ j : Nat, j ≤ T.length ∧ jv = .int .i64 (j : Int) ∧ bv = .bool (anyT n (T.take j)) ∧ Hid (Below w7.heap.size w7 wz)) (fun _ jv _ => T.length - (intOf jv).toNat)
        case atStart => exact ⟨0, Nat.zero_le _, rfl, rfl, HB8⟩
        case round =>
         obtain ⟨j, hj, rfl, rfl, hb⟩ := hrel
         by_cases hjt : j < T.length
         ·have hTW : RepMs (fun b => b < w7.heap.size) wr T (.slice ta T.length tcp) := RepMs.on (fun _ h => h) (fun b hb' => hb.out.block b hb') GT.out
          obtain ⟨-, -, lb, lo, fa', fc', xa, xc, hga, hlb, g0, g1, -, -, -, -, -, -⟩ := RepMs.at hTW j hjt;subst hga;have e0 : wr.cell? ⟨eb, eo + i * 5, none⟩ = some (.string n) := (hb.out.cell (p := ⟨eb, eo + i * 5, none⟩) HEB.out).trans G0.out;have j1 : (0 : Int) ≤ (j : Int) := Int.natCast_nonneg j;have j2 : (j : Int) < (T.length : Int) := by omega
          have HTK := Lib.hid (anyT_take n T hjt);have HJL := Lib.hid hjt;clear hTW hlb;generalize T[j] = t at *;obtain ⟨bb, hbb⟩ : ∃ b, anyT n (T.take j) = b := ⟨_, rfl⟩;rw [hbb] at HTK ⊢;clear hjt hj hbb
          cases bb with
          | true =>
           have HF : Hid (true = anyT n (T.take (j + 1))) := by show _ = _; rw [HTK.out, Bool.true_or]
           clear HTK;go_upto_region 33 with fail
           go_quiet (fail)
           go_wp2_with fail
           go_roundw
           case rel => exact ⟨j + 1, HJL.out, by go_num, by rw [← HF.out], below_drewN hb.out _⟩
           case measure => have := HJL.out; simp [intOf]; omega
          | false =>
           rw [Bool.false_or] at HTK
           cases hk : (t.kind == 1) with
           | false =>
            have HF : Hid (false = anyT n (T.take (j + 1))) := by show _ = _; rw [HTK.out, hk, Bool.false_and]
            clear HTK;go_upto_region 33 with fail
            go_quiet (fail)
            go_wp2_with fail
            go_roundw
            case rel => exact ⟨j + 1, HJL.out, by go_num, by rw [← HF.out], below_drewN hb.out _⟩
            case measure => have := HJL.out; simp [intOf]; omega
           | true =>
            cases hn : (t.name.toList == n.toList) with
            | false =>
             have HF : Hid (false = anyT n (T.take (j + 1))) := by show _ = _; rw [HTK.out, hk, hn]; rfl
             clear HTK;go_upto_region 33 with fail
             go_quiet (fail)
             go_wp2_with fail
             go_roundw
             case rel => exact ⟨j + 1, HJL.out, by go_num, by rw [← HF.out], below_drewN hb.out _⟩
             case measure => have := HJL.out; simp [intOf]; omega
            | true =>
             have HF : Hid (true = anyT n (T.take (j + 1))) := by show _ = _; rw [HTK.out, hk, hn]; rfl
             clear HTK;go_upto_region 33 with fail
             go_quiet (fail)
             go_wp2_with fail
             go_roundw
             case rel => exact ⟨j + 1, HJL.out, by go_num, by rw [← HF.out], below_drewN hb.out _⟩
             case measure => have := HJL.out; simp [intOf]; omega
         ·have hjj : j = T.length := by omega
          clear hjt hj;subst hjj;rw [List.take_length, HIN.out];have e0 : wr.cell? ⟨eb, eo + i * 5, none⟩ = some (.string n) := (hb.out.cell (p := ⟨eb, eo + i * 5, none⟩) HEB.out).trans G0.out;go_wp2_with fail
          refine (Lookup_any E n (fun b => b < w7.heap.size) wr _ (fun b hb' => Nat.lt_of_lt_of_le hb' hb.out.size) (RepBs.on (fun _ h => h) (fun b hb' => hb.out.block b hb') GN.out)).mono ?_;rintro e w2 ⟨y0, y1, y2, y3, rfl, hr, hb2⟩;rw [HNO.out] at hr
          try rw [HNO.out]
          simp only [Option.isSome_none, Option.getD_none] at hr ⊢
          obtain ⟨ya, yc, rfl, rfl, rfl, rfl⟩ := hr.form;have HB2 := Lib.hid (Below.step hb.out hb2);have dA := below_alloc w2 (.cells #[.int .i64 zeroV.kind, .int .i64 zeroV.num, .string zeroV.text, .slice ya zeroV.list.length yc] 28);have HB3 := Lib.hid (Below.step HB2.out dA);clear hr hb2 dA e0 hb HB2;go_wp2_with fail
          go_roundw
          case rel => exact ⟨i + 1, by have := HGE.out; omega, HKL.out, by go_num, HB3⟩
          case measure => have := HKL.out; simp [intOf]; omega
       ·go_wp2_with fail
        go_ret
        exact ⟨rfl, Below.step B.out hb.out⟩
   ·have k1 : decide ((k : Int) < (l.length : Int)) = false := decide_eq_false (by omega)
    have k3 : decide (k < l.length) = false := decide_eq_false (by omega);clear h1 hlt hk;have HLE := hlen;have GT : Hid (RepMs (fun b => b < wr.heap.size) wr T (.slice ta T.length tcp)) := hrow.out.slg (by have := hlen.out; omega);have GV : Hid (RepLG (fun b => b < wr.heap.size) wr M (.slice ma M.length mc)) := lg_of_slg (hrow.out.swap.slg (by have := hlen.out; omega));have HT6 : Hid (T.length ≤ 6) := by show _ ≤ _; have := hlen.out; omega
    replace GN := Lib.hid (RepBs.on (S' := fun k => k < wr.heap.size) (w' := wr) (fun k hk => Nat.lt_of_lt_of_le hk hb.out.size) (fun k hk => hb.out.block k hk) GN.out);replace B := Lib.hid (Below.step B.out hb.out);clear hrow hlen hb;obtain ⟨R, hR⟩ : ∃ R, matchZ T M E = R := ⟨_, rfl⟩;have HM := Lib.hid (Match_any T M E (fun k => k < wr.heap.size) wr _ _ _ (fun _ h => h) GT.out GV.out GN.out (by have := HEL.out; have := HT6.out; omega));rw [hR] at HM;go_wp2_with fail
    refine (HM.out).mono ?_;rintro e w5 ⟨hb, hc⟩;replace GN := Lib.hid (RepBs.on (S' := fun k => k < w5.heap.size) (w' := w5) (fun k hk => Nat.lt_of_lt_of_le hk hb.size) (fun k hk => hb.block k hk) GN.out);replace B := Lib.hid (Below.step B.out hb);replace GT := Lib.hid (RepMs.on (S' := fun k => k < w5.heap.size) (w' := w5) (fun k hk => Nat.lt_of_lt_of_le hk hb.size) (fun k hk => hb.block k hk) GT.out);replace GV := Lib.hid (RepLG.on (S' := fun k => k < w5.heap.size) (w' := w5) (fun k hk => Nat.lt_of_lt_of_le hk hb.size) (fun k hk => hb.block k hk) GV.out);clear HM;rcases hc with ⟨-, rfl⟩ | ⟨F, u, rfl, rfl, hu⟩
    ·go_wp2_with fail
     go_ret
     exact ⟨rfl, B.out⟩
    obtain ⟨f1, f2, f3, f4⟩ := match_facts hR;have HF1 := Lib.hid f1; have HF2 := Lib.hid f2; have HF3 := Lib.hid f3; have HF4 := Lib.hid f4
    have HFL : Hid (F.length ≤ 14) := by
     obtain ⟨-, hF, -⟩ := matchZ_some hR;have h := (withZ_len (T.zip M) E).2;rw [← hF, List.length_zip] at h;have := HEL.out; have := HT6.out
     show _ ≤ _; omega
    obtain ⟨na, nb0, nb1, nc, hnc, hcap, -⟩ := id hu;obtain rfl := hnc;have GF : Hid (RepBs (fun k => k < w5.heap.size) w5 F (.slice na F.length nc)) := RepBs.on (fun k hk => hk.2) (fun _ _ => rfl) hu;have hfe : RepBs (fun k => k < w5.heap.size) w5 (F.take E.length) (.slice na E.length nc) := SlG.front GF.out HF1.out;rw [HF2.out] at hfe;have GFE := Lib.hid hfe;clear hu hb f1 f2 f3 f4 hR hfe;have k1 : decide ((F.length : Int) < (E.length : Int)) = false := decide_eq_false (by have := HF1.out; omega);have k3 : decide (F.length < E.length) = false := decide_eq_false (by have := HF1.out; omega);have k5 : (E.length : Int) ≤ (nc : Int) := by have := HF1.out; omega
    have k6 : E.length ≤ nc := by have := HF1.out; omega
    have k7 : (0 : Int) ≤ (E.length : Int) := Int.natCast_nonneg _;clear hcap;go_wp2_with fail
    refine (same9_any E E (fun k => k < w5.heap.size) w5 _ _ (fun _ h => h) GFE.out GN.out).mono ?_;rintro e w6 ⟨rfl, hb⟩;replace GN := Lib.hid (RepBs.on (S' := fun k => k < w6.heap.size) (w' := w6) (fun k hk => Nat.lt_of_lt_of_le hk hb.size) (fun k hk => hb.block k hk) GN.out);replace B := Lib.hid (Below.step B.out hb);replace GT := Lib.hid (RepMs.on (S' := fun k => k < w6.heap.size) (w' := w6) (fun k hk => Nat.lt_of_lt_of_le hk hb.size) (fun k hk => hb.block k hk) GT.out);replace GV := Lib.hid (RepLG.on (S' := fun k => k < w6.heap.size) (w' := w6) (fun k hk => Nat.lt_of_lt_of_le hk hb.size) (fun k hk => hb.block k hk) GV.out);replace GF := Lib.hid (RepBs.on (S' := fun k => k < w6.heap.size) (w' := w6) (fun k hk => Nat.lt_of_lt_of_le hk hb.size) (fun k hk => hb.block k hk) GF.out);rw [sameE_self];clear hb GFE k1 k3 k5 k6 k7;have ht6 := HT6.out;go_upto_region 21 with fail
    go_loopw [20] (fun iv wr => ∃ i : Nat, i ≤ T.length ∧ iv = .int .i64 (i : Int) ∧ Hid (Below w6.heap.size w6 wr)) (fun iv _ => T.length - (intOf iv).toNat)
    case atStart => exact ⟨0, Nat.zero_le _, rfl, Below.refl _ _⟩
    case round =>
     obtain ⟨i, hi, rfl, hb⟩ := hrel
     by_cases hlt : i < T.length
     ·have hltm : i < M.length := by have := HLE.out; omega
      obtain ⟨y, hy, hz⟩ := HF3.out i hlt hltm;have HY := Lib.hid hy; have HZ := Lib.hid hz
      have hTW : RepMs (fun b => b < w6.heap.size) wr T (.slice ta T.length tcp) := RepMs.on (fun _ h => h) (fun b hb' => hb.out.block b hb') GT.out;obtain ⟨-, -, lb, lo, fa, fc, xa, xc, hga, hlb, g0, g1, g2, g3, g4, g5, g6, g⟩ := RepMs.at hTW i hlt;obtain ⟨-, -, mb, mo, hma, hmb, c, hcc, hx⟩ := SlG.at (slg_of_lg GV.out) i hltm;subst hga hma;have hx' : RepG (fun b => b < w6.heap.size) w6 M[i] (c 0) (c 1) (c 2) (c 3) := hx;obtain ⟨va, vc, e0, e1, e2, e3⟩ := hx'.form;rw [e0, e1, e2, e3] at hx';have n0 := hcc 0 (by decide); have n1 := hcc 1 (by decide); have n2 := hcc 2 (by decide); have n3 := hcc 3 (by decide)
      rw [e0] at n0; rw [e1] at n1; rw [e2] at n2; rw [e3] at n3
      have HMW : Hid (mb < w6.heap.size) := hmb;have N0 : Hid (w6.cell? ⟨mb, mo + i * 4, none⟩ = some (.int .i64 M[i].kind)) := n0;have N1 : Hid (w6.cell? ⟨mb, mo + i * 4 + 1, none⟩ = some (.int .i64 M[i].num)) := n1;have N2 : Hid (w6.cell? ⟨mb, mo + i * 4 + 2, none⟩ = some (.string M[i].text)) := n2;have N3 : Hid (w6.cell? ⟨mb, mo + i * 4 + 3, none⟩ = some (.slice va M[i].list.length vc)) := n3;have HX := Lib.hid hx'; have G := Lib.hid g
      have hk1 : (0 : Int) ≤ (i : Int) := Int.natCast_nonneg i;have hk2 : (i : Int) < (T.length : Int) := by omega
      have HK3 : Hid ((i : Int) < (M.length : Int)) := by show _ < _; omega
      have HKL := Lib.hid hlt;clear g hlb hmb n0 n1 n2 n3 hx' hx hcc e0 e1 e2 e3 c hTW hy hz;generalize T[i] = t at *;generalize M[i] = x at *;clear hi hlt hltm;go_wp2_with fail
      refine (Eval_any t F (fun b => b < w6.heap.size) wr _ _ _ _ _ _ _ _ (fun b hb' => Nat.lt_of_lt_of_le hb' hb.out.size) (RepBs.on (fun _ h => h) (fun b hb' => hb.out.block b hb') GF.out) G.out).mono ?_;rintro e w2 ⟨y0, y1, y2, y3, rfl, hr, hb2⟩;rw [HY.out] at hr
      try rw [HY.out]
      simp only [Option.isSome_some, Option.getD_some] at hr ⊢
      obtain ⟨ya, yc, rfl, rfl, rfl, rfl⟩ := hr.form;have HR := Lib.hid hr;have HB2 := Lib.hid (Below.step hb.out hb2);clear hr hb2 g0 g1 g2 g3 g4 g5 g6 hb G;have mA := alloc_new' w2 (.cells #[.int .i64 y.kind, .int .i64 y.num, .string y.text, .slice ya y.list.length yc] 28);have dA := below_alloc w2 (.cells #[.int .i64 y.kind, .int .i64 y.num, .string y.text, .slice ya y.list.length yc] 28);go_upto_region 24 with fail
      obtain ⟨kq, hkq⟩ : ∃ kq, w2.heap.size = kq := ⟨_, rfl⟩;have HB3 := Lib.hid (Below.step HB2.out dA);have HR3 : Hid (RepV (w2.alloc (.cells #[.int .i64 y.kind, .int .i64 y.num, .string y.text, .slice ya y.list.length yc] 28)).heap.size (w2.alloc (.cells #[.int .i64 y.kind, .int .i64 y.num, .string y.text, .slice ya y.list.length yc] 28)) y (.int .i64 y.kind) (.int .i64 y.num) (.string y.text) (.slice ya y.list.length yc)) := RepG.on (fun b hb' => Nat.lt_of_lt_of_le hb'.2 dA.size) (fun b hb' => dA.block b hb'.2) _ HR.out;have HX3 : Hid (RepV (w2.alloc (.cells #[.int .i64 y.kind, .int .i64 y.num, .string y.text, .slice ya y.list.length yc] 28)).heap.size (w2.alloc (.cells #[.int .i64 y.kind, .int .i64 y.num, .string y.text, .slice ya y.list.length yc] 28)) x (.int .i64 x.kind) (.int .i64 x.num) (.string x.text) (.slice va x.list.length vc)) := RepG.on (fun b hb' => Nat.lt_of_lt_of_le hb' HB3.out.size) (fun b hb' => HB3.out.block b hb') _ HX.out;have HKQ : Hid (kq < (w2.alloc (.cells #[.int .i64 y.kind, .int .i64 y.num, .string y.text, .slice ya y.list.length yc] 28)).heap.size) := by show _ < _; rw [World.size_alloc]; omega
      rw [hkq] at mA
      try rw [hkq]
      clear hkq dA HR HB2;generalize w2.alloc (.cells #[.int .i64 y.kind, .int .i64 y.num, .string y.text, .slice ya y.list.length yc] 28) = w3 at *;have p0 : w3.drew.cell? ⟨kq, 0, none⟩ = some (.int .i64 y.kind) := cell_of_block' (i := 0) mA _ rfl;have p1 : w3.drew.cell? ⟨kq, 1, none⟩ = some (.int .i64 y.num) := cell_of_block' (i := 1) mA _ rfl;have p2 : w3.drew.cell? ⟨kq, 2, none⟩ = some (.string y.text) := cell_of_block' (i := 2) mA _ rfl;have p3 : w3.drew.cell? ⟨kq, 3, none⟩ = some (.slice ya y.list.length yc) := cell_of_block' (i := 3) mA _ rfl;have n0 : w3.drew.cell? ⟨mb, mo + i * 4, none⟩ = some (.int .i64 x.kind) := (HB3.out.cell (p := ⟨mb, mo + i * 4, none⟩) HMW.out).trans N0.out;have n1 : w3.drew.cell? ⟨mb, mo + i * 4 + 1, none⟩ = some (.int .i64 x.num) := (HB3.out.cell (p := ⟨mb, mo + i * 4 + 1, none⟩) HMW.out).trans N1.out;have n2 : w3.drew.cell? ⟨mb, mo + i * 4 + 2, none⟩ = some (.string x.text) := (HB3.out.cell (p := ⟨mb, mo + i * 4 + 2, none⟩) HMW.out).trans N2.out;have n3 : w3.drew.cell? ⟨mb, mo + i * 4 + 3, none⟩ = some (.slice va x.list.length vc) := (HB3.out.cell (p := ⟨mb, mo + i * 4 + 3, none⟩) HMW.out).trans N3.out;have HRD : Hid (RepV w3.drew.heap.size w3.drew y (.int .i64 y.kind) (.int .i64 y.num) (.string y.text) (.slice ya y.list.length yc)) := RepG.on (w := w3) (w' := w3.drew) (fun _ h => h) (fun _ _ => rfl) _ HR3.out;have HXD : Hid (RepV w3.drew.heap.size w3.drew x (.int .i64 x.kind) (.int .i64 x.num) (.string x.text) (.slice va x.list.length vc)) := RepG.on (w := w3) (w' := w3.drew) (fun _ h => h) (fun _ _ => rfl) _ HX3.out;have HD3 : Hid (Below w6.heap.size w6 w3.drew) := Below.step HB3.out (Below.drew (Below.refl _ _));have hkq : kq < w3.drew.heap.size := HKQ.out;have hmb : mb < w3.drew.heap.size := Nat.lt_of_lt_of_le HMW.out HB3.out.size;have k3 := HK3.out;clear mA HB3 HR3 HX3 HKQ
      go_region_held3 (fun w' => w'.cell? ⟨kq, 0, none⟩ = some (.int .i64 y.kind) ∧ w'.cell? ⟨kq, 1, none⟩ = some (.int .i64 y.num) ∧ w'.cell? ⟨kq, 2, none⟩ = some (.string y.text) ∧ w'.cell? ⟨kq, 3, none⟩ = some (.slice ya y.list.length yc) ∧ w'.cell? ⟨mb, mo + i * 4, none⟩ = some (.int .i64 x.kind) ∧ w'.cell? ⟨mb, mo + i * 4 + 1, none⟩ = some (.int .i64 x.num) ∧ w'.cell? ⟨mb, mo + i * 4 + 2, none⟩ = some (.string x.text) ∧ w'.cell? ⟨mb, mo + i * 4 + 3, none⟩ = some (.slice va x.list.length vc))
       (first | (with_reducible exact ⟨(hb.cell (p := ⟨kq, 0, none⟩) hkq).trans p0, (hb.cell (p := ⟨kq, 1, none⟩) hkq).trans p1, (hb.cell (p := ⟨kq, 2, none⟩) hkq).trans p2, (hb.cell (p := ⟨kq, 3, none⟩) hkq).trans p3, (hb.cell (p := ⟨mb, mo + i * 4, none⟩) hmb).trans n0, (hb.cell (p := ⟨mb, mo + i * 4 + 1, none⟩) hmb).trans n1, (hb.cell (p := ⟨mb, mo + i * 4 + 2, none⟩) hmb).trans n2, (hb.cell (p := ⟨mb, mo + i * 4 + 3, none⟩) hmb).trans n3⟩) | (with_reducible exact ⟨p0, p1, p2, p3, n0, n1, n2, n3⟩))
       (first | (go_at_call 21; refine (cmp_any y x _ _ _ _ _ _ _ _ _ _ (Nat.le_refl _) HRD.out HXD.out).mono ?_; rintro e w4 ⟨he, hb⟩; rw [HZ.out] at he; subst he))
      all_goals
       go_wp2_with fail
       go_roundw
       case rel => exact ⟨i + 1, HKL.out, by go_num, Below.step HD3.out hb⟩
       case measure => have := HKL.out; simp [intOf]; omega
     ·have hkk : i = T.length := by omega
      clear hlt hi;subst hkk;replace GT := Lib.hid (RepMs.on (S' := fun k => k < wr.heap.size) (w' := wr) (fun k hk => Nat.lt_of_lt_of_le hk hb.out.size) (fun k hk => hb.out.block k hk) GT.out);replace GN := Lib.hid (RepBs.on (S' := fun k => k < wr.heap.size) (w' := wr) (fun k hk => Nat.lt_of_lt_of_le hk hb.out.size) (fun k hk => hb.out.block k hk) GN.out);replace GF := Lib.hid (RepBs.on (S' := fun k => k < wr.heap.size) (w' := wr) (fun k hk => Nat.lt_of_lt_of_le hk hb.out.size) (fun k hk => hb.out.block k hk) GF.out);replace B := Lib.hid (Below.step B.out hb.out);clear hb GV HF3;generalize wr = w7 at *;have hf63 := HFL.out;go_upto_region 27 with fail
      go_loopw [23] (fun iv wr => ∃ i : Nat, E.length ≤ i ∧ i ≤ F.length ∧ iv = .int .i64 (i : Int) ∧ Hid (Below w7.heap.size w7 wr)) (fun iv _ => F.length - (intOf iv).toNat)
      case atStart => exact ⟨E.length, Nat.le_refl _, HF1.out, rfl, Below.refl _ _⟩
      case round =>
       obtain ⟨i, hge, hi, rfl, hb⟩ := hrel
       by_cases hlt : i < F.length
       ·obtain ⟨hin, hno⟩ := HF4.out i hlt hge
        have HIN := Lib.hid hin; have HNO := Lib.hid hno
        have hFW : RepBs (fun b => b < w7.heap.size) w7 F (.slice na F.length nc) := GF.out;obtain ⟨-, -, eb, eo, fa, fc, hea, hSb, g0, -, -, -, -, -⟩ := RepBs.at hFW i hlt;subst hea;have G0 := Lib.hid g0;have HEB : Hid (eb < w7.heap.size) := hSb;have hk1 : (0 : Int) ≤ (i : Int) := Int.natCast_nonneg i;have hk2 : (i : Int) < (F.length : Int) := by omega
        have HKL := Lib.hid hlt; have HGE := Lib.hid hge
        clear hin hno hFW hSb g0;generalize F[i].1 = n at *;clear hlt hi hge;go_upto_region 31 with fail
        generalize wr = w8 at *;have HB8 := hb;clear hb;go_loopw [24, 25] (fun bv jv wz => ∃ j : Nat, j ≤ T.length ∧ jv = .int .i64 (j : Int) ∧ bv = .bool (anyT n (T.take j)) ∧ Hid (Below w7.heap.size w7 wz)) (fun _ jv _ => T.length - (intOf jv).toNat)
        case atStart => exact ⟨0, Nat.zero_le _, rfl, rfl, HB8⟩
        case round =>
         obtain ⟨j, hj, rfl, rfl, hb⟩ := hrel
         by_cases hjt : j < T.length
         ·have hTW : RepMs (fun b => b < w7.heap.size) wr T (.slice ta T.length tcp) := RepMs.on (fun _ h => h) (fun b hb' => hb.out.block b hb') GT.out
          obtain ⟨-, -, lb, lo, fa', fc', xa, xc, hga, hlb, g0, g1, -, -, -, -, -, -⟩ := RepMs.at hTW j hjt;subst hga;have e0 : wr.cell? ⟨eb, eo + i * 5, none⟩ = some (.string n) := (hb.out.cell (p := ⟨eb, eo + i * 5, none⟩) HEB.out).trans G0.out;have j1 : (0 : Int) ≤ (j : Int) := Int.natCast_nonneg j;have j2 : (j : Int) < (T.length : Int) := by omega
          have HTK := Lib.hid (anyT_take n T hjt);have HJL := Lib.hid hjt;clear hTW hlb;generalize T[j] = t at *;obtain ⟨bb, hbb⟩ : ∃ b, anyT n (T.take j) = b := ⟨_, rfl⟩;rw [hbb] at HTK ⊢;clear hjt hj hbb
          cases bb with
          | true =>
           have HF : Hid (true = anyT n (T.take (j + 1))) := by show _ = _; rw [HTK.out, Bool.true_or]
           clear HTK;go_upto_region 33 with fail
           go_quiet (fail)
           go_wp2_with fail
           go_roundw
           case rel => exact ⟨j + 1, HJL.out, by go_num, by rw [← HF.out], below_drewN hb.out _⟩
           case measure => have := HJL.out; simp [intOf]; omega
          | false =>
           rw [Bool.false_or] at HTK
           cases hk : (t.kind == 1) with
           | false =>
            have HF : Hid (false = anyT n (T.take (j + 1))) := by show _ = _; rw [HTK.out, hk, Bool.false_and]
            clear HTK;go_upto_region 33 with fail
            go_quiet (fail)
            go_wp2_with fail
            go_roundw
            case rel => exact ⟨j + 1, HJL.out, by go_num, by rw [← HF.out], below_drewN hb.out _⟩
            case measure => have := HJL.out; simp [intOf]; omega
           | true =>
            cases hn : (t.name.toList == n.toList) with
            | false =>
             have HF : Hid (false = anyT n (T.take (j + 1))) := by show _ = _; rw [HTK.out, hk, hn]; rfl
             clear HTK;go_upto_region 33 with fail
             go_quiet (fail)
             go_wp2_with fail
             go_roundw
             case rel => exact ⟨j + 1, HJL.out, by go_num, by rw [← HF.out], below_drewN hb.out _⟩
             case measure => have := HJL.out; simp [intOf]; omega
            | true =>
             have HF : Hid (true = anyT n (T.take (j + 1))) := by show _ = _; rw [HTK.out, hk, hn]; rfl
             clear HTK;go_upto_region 33 with fail
             go_quiet (fail)
             go_wp2_with fail
             go_roundw
             case rel => exact ⟨j + 1, HJL.out, by go_num, by rw [← HF.out], below_drewN hb.out _⟩
             case measure => have := HJL.out; simp [intOf]; omega
         ·have hjj : j = T.length := by omega
          clear hjt hj;subst hjj;rw [List.take_length, HIN.out];have e0 : wr.cell? ⟨eb, eo + i * 5, none⟩ = some (.string n) := (hb.out.cell (p := ⟨eb, eo + i * 5, none⟩) HEB.out).trans G0.out;go_wp2_with fail
          refine (Lookup_any E n (fun b => b < w7.heap.size) wr _ (fun b hb' => Nat.lt_of_lt_of_le hb' hb.out.size) (RepBs.on (fun _ h => h) (fun b hb' => hb.out.block b hb') GN.out)).mono ?_;rintro e w2 ⟨y0, y1, y2, y3, rfl, hr, hb2⟩;rw [HNO.out] at hr
          try rw [HNO.out]
          simp only [Option.isSome_none, Option.getD_none] at hr ⊢
          obtain ⟨ya, yc, rfl, rfl, rfl, rfl⟩ := hr.form;have HB2 := Lib.hid (Below.step hb.out hb2);have dA := below_alloc w2 (.cells #[.int .i64 zeroV.kind, .int .i64 zeroV.num, .string zeroV.text, .slice ya zeroV.list.length yc] 28);have HB3 := Lib.hid (Below.step HB2.out dA);clear hr hb2 dA e0 hb HB2;go_wp2_with fail
          go_roundw
          case rel => exact ⟨i + 1, by have := HGE.out; omega, HKL.out, by go_num, HB3⟩
          case measure => have := HKL.out; simp [intOf]; omega
       ·go_wp2_with fail
        go_ret
        exact ⟨rfl, Below.step B.out hb.out⟩
end Go.Proofs.Ytjmnnjikmmglpaa.bindMatches
