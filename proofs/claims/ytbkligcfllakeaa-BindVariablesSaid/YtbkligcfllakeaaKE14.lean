/-
  BindWith, BindFit
-/
import Derived.Test.YtbkligcfllakeaaKE13
import Derived.Deep.RegionLaw
import Derived.BigQuiet
namespace Go.Proofs.Ytbkligcfllakeaa
open Go.RowKit
set_option maxRecDepth 100000 in
theorem clip_any (E : List Bd) (S : Nat → Prop) (w : World) (a : Value) (hE : RepBs S w E a) :
  Calls Try.prog 51 #[a] w fun e w' => w = w' ∧ ∃ b, e = .returned (.slice b E.length E.length) ∧ RepBs S w E (.slice b E.length E.length) := by
 have HE := Lib.hid hE;obtain ⟨a', b', o', cap, rfl, h6, h7, h8, h9, h10⟩ := id hE;have HR : Hid (RepBs S w E (.slice a' E.length E.length)) := ⟨a', b', o', E.length, rfl, Nat.le_refl _, h7, fun h => h8 (by omega), h9, h10⟩;have h6' : (E.length : Int) ≤ (cap : Int) := by omega
 rcases a' with _ | ad
 ·have h0 : cap = 0 := by
   by_cases hc : 0 < cap
   ·have := h8 hc; cases this
   ·omega
  have h1 : E.length = 0 := by omega
  subst h0;rw [h1] at HR ⊢;clear hE h6 h7 h8 h9 h10 h6';go_enter Try.func51, Try.ntmps51
  go_wp2_with fail
  go_ret
  exact ⟨rfl, _, rfl, HR.out⟩
 ·clear hE h8 h9 h10
  generalize E.length = n at *;go_enter Try.func51, Try.ntmps51
  go_wp2_with fail
  go_ret
  exact ⟨rfl, _, rfl, HR.out⟩
def kdBn : Kd Bd := { kdB with ST := 58, und := Try.underlying58 }
def WithAt (S : Nat → Prop) (B : Nat) (w : World) (L : List Bd) (v : Value) : Prop :=
 (∃ a, v = .slice a L.length L.length ∧ RepBs S w L v) ∨ OwnK kdBn S w B L v
theorem WithAt.form {S : Nat → Prop} {B : Nat} {w : World} {L : List Bd} {v : Value} (h : WithAt S B w L v) : ∃ a c, v = .slice a L.length c := by
 rcases h with ⟨a, rfl, -⟩ | h
 ·exact ⟨a, _, rfl⟩
 ·exact OwnK.form h
theorem WithAt.on {S : Nat → Prop} {B : Nat} {w w' : World} {L : List Bd} {v : Value} (h : WithAt S B w L v) (hS : ∀ k, S k → k < w.heap.size) (hb : Below w.heap.size w w') : WithAt S B w' L v := by
 rcases h with ⟨a, e, h⟩ | h
 ·exact .inl ⟨a, e, RepBs.on (fun _ h => h) (fun k hk => hb.block k (hS k hk)) h⟩
 ·exact .inr (OwnK.on h (fun _ h => h) (fun k hk => hb.block k (hS k hk)) (fun k _ hk _ => hb.block k hk))
theorem WithAt.rep {S : Nat → Prop} {B : Nat} {w : World} {L : List Bd} {v : Value} (h : WithAt S B w L v) (hby : L.length * 72 ≤ 140737488355328) : RepBs (fun b => S b ∨ (B ≤ b ∧ b < w.heap.size)) w L v := by
 rcases h with ⟨a, e, h⟩ | h
 ·exact RepBs.on (fun _ h => .inl h) (fun _ _ => rfl) h
 ·exact OwnK.slgS h hby
theorem WithAt.append {S : Nat → Prop} {B b : Nat} {w : World} {L : List Bd} {v : Value} {y : Bd} {c0 c1 c2 c3 c4 : Value} {t : TypeId} {fz : Nat × Nat} (h : WithAt S B w L v) (hB : B ≤ w.heap.size) (hS : ∀ k, S k → k < B) (hby : (L.length + 1) * 72 ≤ 140737488355328)
  (hb : w.heap[b]? = some (.cells #[c0, c1, c2, c3, c4] t fz)) (hR : RepB S w y c0 c1 c2 c3 c4) :
  ∃ (a' : Option Addr) (cap : Nat) (w6 : World), (Builtin.append_ #[58, 58] 58 #[v, .slice (some ⟨b, 0, none⟩) 1 1]).run Try.prog w = .ok (.slice a' (L.length + 1) cap) w6 ∧ WithAt S B w6 (L ++ [y]) (.slice a' (L.length + 1) cap) ∧ Below B w w6 := by
 have hSw : ∀ k, S k → k < w.heap.size := fun k hk => Nat.lt_of_lt_of_le (hS k hk) hB
 have h63 : L.length + 1 ≤ 140737488355328 := by omega
 let f : Nat → Value := fun j => (#[c0, c1, c2, c3, c4] : Array Value)[j]?.getD undef
 have hf : ∀ j, j < kdBn.n → (#[c0, c1, c2, c3, c4] : Array Value)[j]? = some (f j) := fun j hj => match j, hj with | 0, _ => rfl | 1, _ => rfl | 2, _ => rfl | 3, _ => rfl | 4, _ => rfl
 rcases h with ⟨a, rfl, h⟩ | h
 ·obtain ⟨a', cap, w6, h1, h2, h3⟩ := slg_grow (K := kdBn) hSw h rfl hby h63 hb rfl hf hR 58
  refine ⟨a', cap, w6, h1, .inr ?_, ⟨h3.os, h3.tape, h3.output, h3.size, fun k hk => h3.block k (by omega)⟩⟩;obtain ⟨xs, hown, hr⟩ := h2;exact ⟨xs, ownsRow_down hown hB, hr⟩
 ·obtain ⟨a', cap, w6, h1, h2, h3⟩ := OwnK.more (K := kdBn) h hB hS hby h63 hb hf hR 58
  exact ⟨a', cap, w6, h1, .inr h2, h3⟩
theorem withZ_take (l : List Tm) (m : List V) (E : List Bd) {k : Nat} (h1 : k < l.length) (h2 : k < m.length) : withZ ((l.zip m).take (k + 1)) E =
  if l[k].kind = 1 ∧ lookZ l[k].name (withZ ((l.zip m).take k) E) = none then withZ ((l.zip m).take k) E ++ [(l[k].name, m[k])] else withZ ((l.zip m).take k) E := by
 have hz : k < (l.zip m).length := by rw [List.length_zip]; omega
 rw [List.take_succ_eq_append_getElem hz, withZ_append];have : (l.zip m)[k] = (l[k], m[k]) := by simp
 rw [this];rfl
set_option maxRecDepth 100000 in
set_option maxHeartbeats 2000000 in
theorem with_any (l : List Tm) (m : List V) (E : List Bd) (S : Nat → Prop) (w : World) (a v u : Value) (hS : ∀ k, S k → k < w.heap.size) (hE : RepBs S w E a) (hl : RepMs S w l v) (hm : RepLG S w m u) (hlen : l.length = m.length) (hby : (E.length + l.length) * 72 ≤ 140737488355328) :
  Calls Try.prog 27 #[a, v, u] w fun e w' => Below w.heap.size w w' ∧ ∃ b, e = .returned b ∧ RepBs (fun b => S b ∨ (w.heap.size ≤ b ∧ b < w'.heap.size)) w' (withZ (l.zip m) E) b := by
 have HE := Lib.hid hE; have HS := Lib.hid hS; have HL := Lib.hid hl; have HM := Lib.hid (slg_of_lg hm)
 have HLN := Lib.hid hlen; have HBY := Lib.hid hby
 obtain ⟨ea, ec, rfl⟩ := SlG.form hE;obtain ⟨ga, gc, rfl⟩ := SlG.form hl;obtain ⟨ma, mc, rfl⟩ := SlG.form (slg_of_lg hm);have hl63 : l.length * 104 ≤ 140737488355328 := SlG.bytes hl;clear hE hS hl hm hlen hby;go_enter Try.func27, Try.ntmps27
 go_wp2_with fail
 refine (clip_any E S w _ HE.out).mono ?_;rintro e w0 ⟨rfl, ba, rfl, hbr⟩;have HW0 : Hid (WithAt S w.heap.size w E (.slice ba E.length E.length)) := .inl ⟨ba, rfl, hbr⟩;clear hbr;go_upto_region 3 with fail
 go_loopw [7, 16] (fun ov iv wr => ∃ k : Nat, k ≤ l.length ∧ iv = .int .i64 (k : Int) ∧ Hid (WithAt S w.heap.size wr (withZ ((l.zip m).take k) E) ov) ∧ Hid (Below w.heap.size w wr)) (fun _ iv _ => l.length - (intOf iv).toNat)
 case atStart => exact ⟨0, Nat.zero_le _, rfl, HW0, Below.refl _ _⟩
 case round =>
  obtain ⟨k, hk, rfl, hat, hb⟩ := hrel;clear HW0
  by_cases hlt : k < l.length
  ·have hltm : k < m.length := by have := HLN.out; omega
   obtain ⟨-, -, lb, lo, fa, fc, xa, xc, hga, hlb, g0, g1, g2, g3, g4, g5, g6, g⟩ := RepMs.at HL.out k hlt;obtain ⟨-, -, mb, mo, hma, hmb, c, hcc, hx⟩ := SlG.at HM.out k hltm;subst hga hma;have hx' : RepG S w m[k] (c 0) (c 1) (c 2) (c 3) := hx;obtain ⟨va, vc, e0, e1, e2, e3⟩ := hx'.form;rw [e0, e1, e2, e3] at hx';have n0 := hcc 0 (by decide); have n1 := hcc 1 (by decide); have n2 := hcc 2 (by decide); have n3 := hcc 3 (by decide)
   rw [e0] at n0; rw [e1] at n1; rw [e2] at n2; rw [e3] at n3
   clear hx hcc e0 e1 e2 e3 c;have hlw : lb < w.heap.size := HS.out lb hlb;have hmw : mb < w.heap.size := HS.out mb hmb;have HMW := Lib.hid hmw;replace g0 := (hb.out.cell (p := ⟨lb, lo + k * 7, none⟩) hlw).trans g0;replace g1 := (hb.out.cell (p := ⟨lb, lo + k * 7 + 1, none⟩) hlw).trans g1;replace g2 := (hb.out.cell (p := ⟨lb, lo + k * 7 + 2, none⟩) hlw).trans g2;replace g3 := (hb.out.cell (p := ⟨lb, lo + k * 7 + 3, none⟩) hlw).trans g3;replace g4 := (hb.out.cell (p := ⟨lb, lo + k * 7 + 4, none⟩) hlw).trans g4;replace g5 := (hb.out.cell (p := ⟨lb, lo + k * 7 + 5, none⟩) hlw).trans g5;replace g6 := (hb.out.cell (p := ⟨lb, lo + k * 7 + 6, none⟩) hlw).trans g6;have N0 : Hid (w.cell? ⟨mb, mo + k * 4, none⟩ = some (.int .i64 m[k].kind)) := n0;have N1 : Hid (w.cell? ⟨mb, mo + k * 4 + 1, none⟩ = some (.int .i64 m[k].num)) := n1;have N2 : Hid (w.cell? ⟨mb, mo + k * 4 + 2, none⟩ = some (.string m[k].text)) := n2;have N3 : Hid (w.cell? ⟨mb, mo + k * 4 + 3, none⟩ = some (.slice va m[k].list.length vc)) := n3;have HX := Lib.hid hx';have hk1 : (0 : Int) ≤ (k : Int) := Int.natCast_nonneg k;have hk2 : (k : Int) < (l.length : Int) := by omega
   have HK3 : Hid ((k : Int) < (m.length : Int)) := by show _ < _; omega
   have HTK := Lib.hid (withZ_take l m E hlt hltm);have HKL := Lib.hid hlt
   have HWL : Hid ((withZ ((l.zip m).take k) E).length ≤ E.length + k) := by
    have h1 := (withZ_len ((l.zip m).take k) E).2;rw [List.length_take] at h1
    show _ ≤ _; omega
   have HNS : Hid (l[k].name.size ≤ maxLen) := g.bounds.2;clear g hlb hlw hmb hmw n0 n1 n2 n3 hx';generalize l[k] = t at *;generalize m[k] = x at *;generalize withZ ((l.zip m).take k) E = W at *;clear hk hlt hltm;have m1 := alloc_new' wr (.cells #[.int .i64 t.kind, .string t.name, .int .i64 t.val.kind, .int .i64 t.val.num, .string t.val.text, .slice fa t.val.list.length fc, .slice xa t.args.length xc] 29);have d1 := below_alloc wr (.cells #[.int .i64 t.kind, .string t.name, .int .i64 t.val.kind, .int .i64 t.val.num, .string t.val.text, .slice fa t.val.list.length fc, .slice xa t.args.length xc] 29);go_upto_region 5 with fail
   clear g0 g1 g2 g3 g4 g5 g6;obtain ⟨kz, hkz⟩ : ∃ kz, wr.heap.size = kz := ⟨_, rfl⟩;have HB1 := Lib.hid (Below.step hb.out d1);have HA1 := Lib.hid (hat.out.on (fun b hb' => Nat.lt_of_lt_of_le (HS.out b hb') hb.out.size) d1);have HKZ : Hid (w.heap.size ≤ kz) := by show _ ≤ _; rw [← hkz]; exact hb.out.size
   rw [hkz] at m1 ⊢;clear hkz d1 hb hat;generalize wr.alloc (.cells #[.int .i64 t.kind, .string t.name, .int .i64 t.val.kind, .int .i64 t.val.num, .string t.val.text, .slice fa t.val.list.length fc, .slice xa t.args.length xc] 29) = w1 at *;have M1 := Lib.hid m1;have q0 := cell_of_block' (i := 0) m1 _ rfl;have q1 := cell_of_block' (i := 1) m1 _ rfl;clear m1
   by_cases h1 : t.kind = 1
   ·have hb1 : (t.kind != 1) = false := by simp [h1]
    have HT1 := Lib.hid h1;clear h1;obtain ⟨wa, wc, rfl⟩ := HA1.out.form;go_wp2_with fail
    refine (lookup_any W t.name (fun b => S b ∨ (w.heap.size ≤ b ∧ b < w1.heap.size)) w1 _ (fun b hb' => by rcases hb' with hb' | hb'; have h1 := HS.out b hb'; have h2 := HB1.out.size; omega; exact hb'.2) (HA1.out.rep (by have := HWL.out; have := HBY.out; have := HKL.out; omega))).mono ?_;rintro e w2 ⟨y0, y1, y2, y3, rfl, hr, hb⟩;obtain ⟨ya, yc, rfl, rfl, rfl, rfl⟩ := hr.form;have HB2 := Lib.hid (Below.step HB1.out hb);have HA2 := Lib.hid (HA1.out.on (fun b hb' => Nat.lt_of_lt_of_le (HS.out b hb') HB1.out.size) hb);have M2 := Lib.hid ((hb.block _ (Array.getElem?_eq_some_iff.1 M1.out).1).trans M1.out);clear hr hb q0 q1 HA1 HB1 M1;obtain ⟨r, hr⟩ : ∃ r, lookZ t.name W = r := ⟨_, rfl⟩;rw [hr] at HTK ⊢;clear hr;generalize r.getD zeroV = y at *
    cases r with
    | some y' =>
     have HF : Hid (withZ ((l.zip m).take (k + 1)) E = W) := by show _ = _; rw [HTK.out, if_neg (fun h => by cases h.2)]
     have dA := below_alloc w2 (.cells #[.int .i64 y.kind, .int .i64 y.num, .string y.text, .slice ya y.list.length yc] 27);have HB3 := Lib.hid (Below.step HB2.out dA);have HA3 := Lib.hid (HA2.out.on (fun b hb' => Nat.lt_of_lt_of_le (HS.out b hb') HB2.out.size) dA);clear dA;go_wp2_with fail
     go_roundw
     case rel => exact ⟨k + 1, HKL.out, by go_num, by rw [HF.out]; exact HA3, HB3⟩
     case measure => have := HKL.out; simp [intOf]; omega
    | none =>
     have HF : Hid (withZ ((l.zip m).take (k + 1)) E = W ++ [(t.name, x)]) := by show _ = _; rw [HTK.out, if_pos ⟨HT1.out, rfl⟩]
     have dA := below_alloc w2 (.cells #[.int .i64 y.kind, .int .i64 y.num, .string y.text, .slice ya y.list.length yc] 27);go_upto_region 8 with fail
     have HB3 := Lib.hid (Below.step HB2.out dA);have HA3 := Lib.hid (HA2.out.on (fun b hb' => Nat.lt_of_lt_of_le (HS.out b hb') HB2.out.size) dA);have M3 := Lib.hid ((dA.block _ (Array.getElem?_eq_some_iff.1 M2.out).1).trans M2.out);clear dA HB2 HA2 M2;generalize w2.alloc (.cells #[.int .i64 y.kind, .int .i64 y.num, .string y.text, .slice ya y.list.length yc] 27) = w3 at *;have dD : Below w3.heap.size w3 w3.drew := Below.drew (Below.refl _ _);have dB := below_alloc w3.drew (.cells #[.string t.name, .int .i64 x.kind, .int .i64 x.num, .string x.text, .slice va x.list.length vc] 35);have hs3 := HB3.out.size;have hSd : ∀ k, S k → k < w3.drew.heap.size := fun k hk => Nat.lt_of_lt_of_le (HS.out k hk) hs3
     have hAq := (HA3.out.on (fun k hk => Nat.lt_of_lt_of_le (HS.out k hk) hs3) dD).on hSd dB
     have hRq : RepB S (w3.drew.alloc (.cells #[.string t.name, .int .i64 x.kind, .int .i64 x.num, .string x.text, .slice va x.list.length vc] 35)) (t.name, x) (.string t.name) (.int .i64 x.kind) (.int .i64 x.num) (.string x.text) (.slice va x.list.length vc) :=
      ⟨rfl, HNS.out, RepG.on (fun _ h => h) (fun b hb' => (dB.block b (hSd b hb')).trans ((dD.block b (hSd b hb')).trans (HB3.out.block b (HS.out b hb')))) _ HX.out⟩
     obtain ⟨a6, cap6, w6, hrun, hw6, hb6⟩ := WithAt.append hAq (by have h := dB.size; have h2 : w.heap.size ≤ w3.drew.heap.size := hs3; omega) HS.out (by have := HWL.out; have := HBY.out; have := HKL.out; omega) (alloc_new' w3.drew _) hRq
     have HB6 : Hid (Below w.heap.size w w6) := by
      have h3 : Below w.heap.size w (w3.drew.alloc (.cells #[.string t.name, .int .i64 x.kind, .int .i64 x.num, .string x.text, .slice va x.list.length vc] 35)) := Below.step (Below.step HB3.out dD) dB;exact ⟨hb6.os.trans h3.os, hb6.tape.trans h3.tape, hb6.output.trans h3.output, Nat.le_trans h3.size hb6.size, fun b hb' => (hb6.block b hb').trans (h3.block b hb')⟩
     have HRUN := Lib.hid hrun; have HW6 := Lib.hid hw6
     have q1 : w3.drew.cell? ⟨kz, 1, none⟩ = some (.string t.name) := cell_of_block' (i := 1) M3.out _ rfl;have n0 : w3.drew.cell? ⟨mb, mo + k * 4, none⟩ = some (.int .i64 x.kind) := (HB3.out.cell (p := ⟨mb, mo + k * 4, none⟩) HMW.out).trans N0.out;have n1 : w3.drew.cell? ⟨mb, mo + k * 4 + 1, none⟩ = some (.int .i64 x.num) := (HB3.out.cell (p := ⟨mb, mo + k * 4 + 1, none⟩) HMW.out).trans N1.out;have n2 : w3.drew.cell? ⟨mb, mo + k * 4 + 2, none⟩ = some (.string x.text) := (HB3.out.cell (p := ⟨mb, mo + k * 4 + 2, none⟩) HMW.out).trans N2.out;have n3 : w3.drew.cell? ⟨mb, mo + k * 4 + 3, none⟩ = some (.slice va x.list.length vc) := (HB3.out.cell (p := ⟨mb, mo + k * 4 + 3, none⟩) HMW.out).trans N3.out;have k3 := HK3.out;clear dD dB hs3 hSd hAq hRq hrun hw6 hb6 HA3 HB3 M3
     go_region_law
      (first
       | (refine step_append_by rfl _ _ _ rfl rfl rfl HRUN.out ?_))
     all_goals
      go_wp2_with fail
      go_roundw
      case rel => exact ⟨k + 1, HKL.out, by go_num, by rw [HF.out]; exact HW6, HB6⟩
      case measure => have := HKL.out; simp [intOf]; omega
   ·have hb1 : (t.kind != 1) = true := by simp [h1]
    have HF : Hid (withZ ((l.zip m).take (k + 1)) E = W) := by show _ = _; rw [HTK.out, if_neg (fun h => h1 h.1)]
    clear h1;go_wp2_with fail
    go_roundw
    case rel => exact ⟨k + 1, HKL.out, by go_num, by rw [HF.out]; exact HA1, HB1⟩
    case measure => have := HKL.out; simp [intOf]; omega
  ·have hkk : k = l.length := by omega
   subst hkk;have hall : (l.zip m).take l.length = l.zip m := List.take_of_length_le (by rw [List.length_zip]; omega);rw [hall] at hat;clear hall;go_wp2_with fail
   go_ret
   exact ⟨hb.out, _, rfl, hat.out.rep (by have h := (withZ_len (l.zip m) E).2; rw [List.length_zip] at h; have := HBY.out; omega)⟩
end Go.Proofs.Ytbkligcfllakeaa
namespace Go.Proofs.Ytbkligcfllakeaa
open Go.RowKit
theorem zip_take {α β : Type} (l : List α) (m : List β) {k : Nat} (h1 : k < l.length) (h2 : k < m.length) : (l.zip m).take (k + 1) = (l.zip m).take k ++ [(l[k], m[k])] := by
 have hz : k < (l.zip m).length := by rw [List.length_zip]; omega
 rw [List.take_succ_eq_append_getElem hz];have : (l.zip m)[k] = (l[k], m[k]) := by simp
 rw [this]
set_option maxRecDepth 100000 in
set_option maxHeartbeats 2000000 in
theorem fit9_any (l : List Tm) (m : List V) (E : List Bd) (S : Nat → Prop) (w : World) (a v u : Value) (hS : ∀ k, S k → k < w.heap.size) (hE : RepBs S w E a) (hl : RepMs S w l v) (hm : RepLG S w m u) (hlen : l.length = m.length) :
  Calls Try.prog 28 #[a, v, u] w fun e w' => Below w.heap.size w w' ∧ e = .returned (.bool (fitZ E (l.zip m))) := by
 have HE := Lib.hid hE; have HS := Lib.hid hS; have HL := Lib.hid hl; have HM := Lib.hid (slg_of_lg hm)
 have HLN := Lib.hid hlen;obtain ⟨ea, ec, rfl⟩ := SlG.form hE;obtain ⟨ga, gc, rfl⟩ := SlG.form hl;obtain ⟨ma, mc, rfl⟩ := SlG.form (slg_of_lg hm);have hl63 : l.length * 104 ≤ 140737488355328 := SlG.bytes hl;clear hE hS hl hm hlen;go_enter Try.func28, Try.ntmps28
 go_upto_region 2 with fail
 go_loopw [13] (fun iv wr => ∃ k : Nat, k ≤ l.length ∧ iv = .int .i64 (k : Int) ∧ Hid (fitZ E ((l.zip m).take k) = true) ∧ Hid (Below w.heap.size w wr)) (fun iv _ => l.length - (intOf iv).toNat)
 case atStart => exact ⟨0, Nat.zero_le _, rfl, rfl, Below.refl _ _⟩
 case round =>
  obtain ⟨k, hk, rfl, hat, hb⟩ := hrel
  by_cases hlt : k < l.length
  ·have hltm : k < m.length := by have := HLN.out; omega
   obtain ⟨-, -, lb, lo, fa, fc, xa, xc, hga, hlb, g0, g1, g2, g3, g4, g5, g6, g⟩ := RepMs.at HL.out k hlt;obtain ⟨-, -, mb, mo, hma, hmb, c, hcc, hx⟩ := SlG.at HM.out k hltm;subst hga hma;have hx' : RepG S w m[k] (c 0) (c 1) (c 2) (c 3) := hx;obtain ⟨va, vc, e0, e1, e2, e3⟩ := hx'.form;rw [e0, e1, e2, e3] at hx';have n0 := hcc 0 (by decide); have n1 := hcc 1 (by decide); have n2 := hcc 2 (by decide); have n3 := hcc 3 (by decide)
   rw [e0] at n0; rw [e1] at n1; rw [e2] at n2; rw [e3] at n3
   clear hx hcc e0 e1 e2 e3 c;have hlw : lb < w.heap.size := HS.out lb hlb;have hmw : mb < w.heap.size := HS.out mb hmb;have HMW := Lib.hid hmw;replace g0 := (hb.out.cell (p := ⟨lb, lo + k * 7, none⟩) hlw).trans g0;replace g1 := (hb.out.cell (p := ⟨lb, lo + k * 7 + 1, none⟩) hlw).trans g1;replace g2 := (hb.out.cell (p := ⟨lb, lo + k * 7 + 2, none⟩) hlw).trans g2;replace g3 := (hb.out.cell (p := ⟨lb, lo + k * 7 + 3, none⟩) hlw).trans g3;replace g4 := (hb.out.cell (p := ⟨lb, lo + k * 7 + 4, none⟩) hlw).trans g4;replace g5 := (hb.out.cell (p := ⟨lb, lo + k * 7 + 5, none⟩) hlw).trans g5;replace g6 := (hb.out.cell (p := ⟨lb, lo + k * 7 + 6, none⟩) hlw).trans g6;have N0 : Hid (w.cell? ⟨mb, mo + k * 4, none⟩ = some (.int .i64 m[k].kind)) := n0;have N1 : Hid (w.cell? ⟨mb, mo + k * 4 + 1, none⟩ = some (.int .i64 m[k].num)) := n1;have N2 : Hid (w.cell? ⟨mb, mo + k * 4 + 2, none⟩ = some (.string m[k].text)) := n2;have N3 : Hid (w.cell? ⟨mb, mo + k * 4 + 3, none⟩ = some (.slice va m[k].list.length vc)) := n3;have HX := Lib.hid hx';have HG : Hid (RepM S wr l[k] (.int .i64 l[k].kind) (.string l[k].name) (.int .i64 l[k].val.kind) (.int .i64 l[k].val.num) (.string l[k].val.text) (.slice fa l[k].val.list.length fc) (.slice xa l[k].args.length xc)) := RepM.on (fun _ h => h) (fun b hb' => hb.out.block b (HS.out b hb')) _ g;have hk1 : (0 : Int) ≤ (k : Int) := Int.natCast_nonneg k;have hk2 : (k : Int) < (l.length : Int) := by omega
   have HK3 : Hid ((k : Int) < (m.length : Int)) := by show _ < _; omega
   have HTK : Hid (fitZ E ((l.zip m).take (k + 1)) = (match evalM E l[k] with | none => false | some y => decide (cmpV y m[k] = 0))) := by
    show _ = _
    rw [zip_take l m hlt hltm, fitZ_snoc, hat.out, Bool.true_and];rfl
   have HKL := Lib.hid hlt;clear g hlb hlw hmb hmw n0 n1 n2 n3 hx';generalize l[k] = t at *;generalize m[k] = x at *;clear hk hlt hltm hat;have m1 := alloc_new' wr (.cells #[.int .i64 t.kind, .string t.name, .int .i64 t.val.kind, .int .i64 t.val.num, .string t.val.text, .slice fa t.val.list.length fc, .slice xa t.args.length xc] 29);have d1 := below_alloc wr (.cells #[.int .i64 t.kind, .string t.name, .int .i64 t.val.kind, .int .i64 t.val.num, .string t.val.text, .slice fa t.val.list.length fc, .slice xa t.args.length xc] 29);go_upto_region 4 with fail
   clear g0 g1 g2 g3 g4 g5 g6;obtain ⟨kz, hkz⟩ : ∃ kz, wr.heap.size = kz := ⟨_, rfl⟩;have HB1 := Lib.hid (Below.step hb.out d1);have HG1 : Hid (RepM S (wr.alloc (.cells #[.int .i64 t.kind, .string t.name, .int .i64 t.val.kind, .int .i64 t.val.num, .string t.val.text, .slice fa t.val.list.length fc, .slice xa t.args.length xc] 29)) t (.int .i64 t.kind) (.string t.name) (.int .i64 t.val.kind) (.int .i64 t.val.num) (.string t.val.text) (.slice fa t.val.list.length fc) (.slice xa t.args.length xc)) := RepM.on (fun _ h => h) (fun b hb' => d1.block b (Nat.lt_of_lt_of_le (HS.out b hb') hb.out.size)) t HG.out;rw [hkz] at m1 ⊢;clear hkz d1 hb HG;generalize wr.alloc (.cells #[.int .i64 t.kind, .string t.name, .int .i64 t.val.kind, .int .i64 t.val.num, .string t.val.text, .slice fa t.val.list.length fc, .slice xa t.args.length xc] 29) = w1 at *;have q0 := cell_of_block' (i := 0) m1 _ rfl;have q1 := cell_of_block' (i := 1) m1 _ rfl;have q2 := cell_of_block' (i := 2) m1 _ rfl;have q3 := cell_of_block' (i := 3) m1 _ rfl;have q4 := cell_of_block' (i := 4) m1 _ rfl;have q5 := cell_of_block' (i := 5) m1 _ rfl;have q6 := cell_of_block' (i := 6) m1 _ rfl;clear m1;have HE1 : Hid (RepBs S w1 E (.slice ea E.length ec)) := RepBs.on (fun _ h => h) (fun b hb' => HB1.out.block b (HS.out b hb')) HE.out;go_wp2_with fail
   refine (evalAt_any t E S w1 _ _ _ _ _ _ _ _ (fun b hb' => Nat.lt_of_lt_of_le (HS.out b hb') HB1.out.size) HE1.out HG1.out).mono ?_;rintro e w2 ⟨y0, y1, y2, y3, rfl, hr, hb⟩;have HB2 := Lib.hid (Below.step HB1.out hb);have HR := Lib.hid hr;have HSZ := Lib.hid hb.size;clear hr hb q0 q1 q2 q3 q4 q5 q6 HE1 HG1 HB1;obtain ⟨r, hr⟩ : ∃ r, evalM E t = r := ⟨_, rfl⟩;rw [hr] at HR HTK ⊢;clear hr;obtain ⟨ya, yc, rfl, rfl, rfl, rfl⟩ := HR.out.form;rcases r with _ | y
   ·have HF : Hid (fitZ E (l.zip m) = false) := fitZ_take E _ (k + 1) HTK.out
    simp only [Option.getD_none, Option.isSome_none] at HR ⊢
    have dA := below_alloc w2 (.cells #[.int .i64 zeroV.kind, .int .i64 zeroV.num, .string zeroV.text, .slice ya zeroV.list.length yc] 27);go_upto_region 5 with fail
    have HB3 := Lib.hid (Below.step HB2.out dA);clear dA;generalize w2.alloc (.cells #[.int .i64 zeroV.kind, .int .i64 zeroV.num, .string zeroV.text, .slice ya zeroV.list.length yc] 27) = w3 at *;go_quiet (fail)
    go_wp2_with fail
    go_ret
    exact ⟨below_drewN HB3.out _, (congrArg (fun b => Ending.returned (.bool b)) HF.out).symm⟩
   ·simp only [Option.getD_some, Option.isSome_some] at HR ⊢
    have mA := alloc_new' w2 (.cells #[.int .i64 y.kind, .int .i64 y.num, .string y.text, .slice ya y.list.length yc] 27);have dA := below_alloc w2 (.cells #[.int .i64 y.kind, .int .i64 y.num, .string y.text, .slice ya y.list.length yc] 27);go_upto_region 5 with fail
    obtain ⟨kq, hkq⟩ : ∃ kq, w2.heap.size = kq := ⟨_, rfl⟩;have HB3 := Lib.hid (Below.step HB2.out dA);have HR3 : Hid (RepV (w2.alloc (.cells #[.int .i64 y.kind, .int .i64 y.num, .string y.text, .slice ya y.list.length yc] 27)).heap.size (w2.alloc (.cells #[.int .i64 y.kind, .int .i64 y.num, .string y.text, .slice ya y.list.length yc] 27)) y (.int .i64 y.kind) (.int .i64 y.num) (.string y.text) (.slice ya y.list.length yc)) := RepG.on (fun b hb' => by have h0 := dA.size; rcases hb' with hb' | hb'; have h1 := HS.out b hb'; have h2 := HB2.out.size; omega; omega) (fun b hb' => dA.block b (by rcases hb' with hb' | hb'; have h1 := HS.out b hb'; have h2 := HB2.out.size; omega; exact hb'.2)) _ HR.out;have HX3 : Hid (RepV (w2.alloc (.cells #[.int .i64 y.kind, .int .i64 y.num, .string y.text, .slice ya y.list.length yc] 27)).heap.size (w2.alloc (.cells #[.int .i64 y.kind, .int .i64 y.num, .string y.text, .slice ya y.list.length yc] 27)) x (.int .i64 x.kind) (.int .i64 x.num) (.string x.text) (.slice va x.list.length vc)) := RepG.on (fun b hb' => by have h1 := HS.out b hb'; have h2 := HB3.out.size; omega) (fun b hb' => HB3.out.block b (HS.out b hb')) _ HX.out;have HKQ : Hid (kq < (w2.alloc (.cells #[.int .i64 y.kind, .int .i64 y.num, .string y.text, .slice ya y.list.length yc] 27)).heap.size) := by show _ < _; rw [World.size_alloc]; omega
    rw [hkq] at mA ⊢;clear hkq dA HR HB2 HSZ;generalize w2.alloc (.cells #[.int .i64 y.kind, .int .i64 y.num, .string y.text, .slice ya y.list.length yc] 27) = w3 at *;have p0 : w3.drew.cell? ⟨kq, 0, none⟩ = some (.int .i64 y.kind) := cell_of_block' (i := 0) mA _ rfl;have p1 : w3.drew.cell? ⟨kq, 1, none⟩ = some (.int .i64 y.num) := cell_of_block' (i := 1) mA _ rfl;have p2 : w3.drew.cell? ⟨kq, 2, none⟩ = some (.string y.text) := cell_of_block' (i := 2) mA _ rfl;have p3 : w3.drew.cell? ⟨kq, 3, none⟩ = some (.slice ya y.list.length yc) := cell_of_block' (i := 3) mA _ rfl;have n0 : w3.drew.cell? ⟨mb, mo + k * 4, none⟩ = some (.int .i64 x.kind) := (HB3.out.cell (p := ⟨mb, mo + k * 4, none⟩) HMW.out).trans N0.out;have n1 : w3.drew.cell? ⟨mb, mo + k * 4 + 1, none⟩ = some (.int .i64 x.num) := (HB3.out.cell (p := ⟨mb, mo + k * 4 + 1, none⟩) HMW.out).trans N1.out;have n2 : w3.drew.cell? ⟨mb, mo + k * 4 + 2, none⟩ = some (.string x.text) := (HB3.out.cell (p := ⟨mb, mo + k * 4 + 2, none⟩) HMW.out).trans N2.out;have n3 : w3.drew.cell? ⟨mb, mo + k * 4 + 3, none⟩ = some (.slice va x.list.length vc) := (HB3.out.cell (p := ⟨mb, mo + k * 4 + 3, none⟩) HMW.out).trans N3.out;have HRD : Hid (RepV w3.drew.heap.size w3.drew y (.int .i64 y.kind) (.int .i64 y.num) (.string y.text) (.slice ya y.list.length yc)) := RepG.on (w := w3) (w' := w3.drew) (fun _ h => h) (fun _ _ => rfl) _ HR3.out;have HXD : Hid (RepV w3.drew.heap.size w3.drew x (.int .i64 x.kind) (.int .i64 x.num) (.string x.text) (.slice va x.list.length vc)) := RepG.on (w := w3) (w' := w3.drew) (fun _ h => h) (fun _ _ => rfl) _ HX3.out;have HD3 : Hid (Below w.heap.size w w3.drew) := Below.step HB3.out (Below.drew (Below.refl _ _));have hkq : kq < w3.drew.heap.size := HKQ.out;have hmb : mb < w3.drew.heap.size := Nat.lt_of_lt_of_le HMW.out HB3.out.size;have k3 := HK3.out;obtain ⟨z, hz⟩ : ∃ z, cmpV y x = z := ⟨_, rfl⟩;have HZ := Lib.hid hz;have HTK2 : Hid (fitZ E ((l.zip m).take (k + 1)) = decide (cmpV y x = 0)) := HTK.out;rw [hz] at HTK2;clear hz mA HB3 HR3 HX3 HKQ
    by_cases hz0 : z = 0
    ·subst hz0
     have HF : Hid (fitZ E ((l.zip m).take (k + 1)) = true) := by show _ = _; rw [HTK2.out]; rfl
     go_region_held3 (fun w' => w'.cell? ⟨kq, 0, none⟩ = some (.int .i64 y.kind) ∧ w'.cell? ⟨kq, 1, none⟩ = some (.int .i64 y.num) ∧ w'.cell? ⟨kq, 2, none⟩ = some (.string y.text) ∧ w'.cell? ⟨kq, 3, none⟩ = some (.slice ya y.list.length yc) ∧ w'.cell? ⟨mb, mo + k * 4, none⟩ = some (.int .i64 x.kind) ∧ w'.cell? ⟨mb, mo + k * 4 + 1, none⟩ = some (.int .i64 x.num) ∧ w'.cell? ⟨mb, mo + k * 4 + 2, none⟩ = some (.string x.text) ∧ w'.cell? ⟨mb, mo + k * 4 + 3, none⟩ = some (.slice va x.list.length vc))
      (first | (with_reducible exact ⟨(hb.cell (p := ⟨kq, 0, none⟩) hkq).trans p0, (hb.cell (p := ⟨kq, 1, none⟩) hkq).trans p1, (hb.cell (p := ⟨kq, 2, none⟩) hkq).trans p2, (hb.cell (p := ⟨kq, 3, none⟩) hkq).trans p3, (hb.cell (p := ⟨mb, mo + k * 4, none⟩) hmb).trans n0, (hb.cell (p := ⟨mb, mo + k * 4 + 1, none⟩) hmb).trans n1, (hb.cell (p := ⟨mb, mo + k * 4 + 2, none⟩) hmb).trans n2, (hb.cell (p := ⟨mb, mo + k * 4 + 3, none⟩) hmb).trans n3⟩) | (with_reducible exact ⟨p0, p1, p2, p3, n0, n1, n2, n3⟩))
      (first | (go_at_call 20; refine (cmp_any y x _ _ _ _ _ _ _ _ _ _ (Nat.le_refl _) HRD.out HXD.out).mono ?_; rintro e w4 ⟨he, hb⟩; rw [HZ.out] at he; subst he))
     all_goals
      go_wp2_with fail
      go_roundw
      case rel => exact ⟨k + 1, HKL.out, by go_num, HF, Below.step HD3.out hb⟩
      case measure => have := HKL.out; simp [intOf]; omega
    ·have hz1 : (z != 0) = true := by simpa using hz0
     have HF : Hid (fitZ E (l.zip m) = false) := fitZ_take E _ (k + 1) (by rw [HTK2.out]; exact decide_eq_false hz0);clear hz0
     go_region_held3 (fun w' => w'.cell? ⟨kq, 0, none⟩ = some (.int .i64 y.kind) ∧ w'.cell? ⟨kq, 1, none⟩ = some (.int .i64 y.num) ∧ w'.cell? ⟨kq, 2, none⟩ = some (.string y.text) ∧ w'.cell? ⟨kq, 3, none⟩ = some (.slice ya y.list.length yc) ∧ w'.cell? ⟨mb, mo + k * 4, none⟩ = some (.int .i64 x.kind) ∧ w'.cell? ⟨mb, mo + k * 4 + 1, none⟩ = some (.int .i64 x.num) ∧ w'.cell? ⟨mb, mo + k * 4 + 2, none⟩ = some (.string x.text) ∧ w'.cell? ⟨mb, mo + k * 4 + 3, none⟩ = some (.slice va x.list.length vc))
      (first | (with_reducible exact ⟨(hb.cell (p := ⟨kq, 0, none⟩) hkq).trans p0, (hb.cell (p := ⟨kq, 1, none⟩) hkq).trans p1, (hb.cell (p := ⟨kq, 2, none⟩) hkq).trans p2, (hb.cell (p := ⟨kq, 3, none⟩) hkq).trans p3, (hb.cell (p := ⟨mb, mo + k * 4, none⟩) hmb).trans n0, (hb.cell (p := ⟨mb, mo + k * 4 + 1, none⟩) hmb).trans n1, (hb.cell (p := ⟨mb, mo + k * 4 + 2, none⟩) hmb).trans n2, (hb.cell (p := ⟨mb, mo + k * 4 + 3, none⟩) hmb).trans n3⟩) | (with_reducible exact ⟨p0, p1, p2, p3, n0, n1, n2, n3⟩))
      (first | (go_at_call 20; refine (cmp_any y x _ _ _ _ _ _ _ _ _ _ (Nat.le_refl _) HRD.out HXD.out).mono ?_; rintro e w4 ⟨he, hb⟩; rw [HZ.out] at he; subst he))
     all_goals
      go_wp2_with fail
      go_ret
      exact ⟨Below.step HD3.out hb, (congrArg (fun b => Ending.returned (.bool b)) HF.out).symm⟩
  ·have hkk : k = l.length := by omega
   subst hkk;have hall : (l.zip m).take l.length = l.zip m := List.take_of_length_le (by rw [List.length_zip]; omega);rw [hall] at hat;clear hall;go_wp2_with fail
   go_ret
   exact ⟨hb.out, (congrArg (fun b => Ending.returned (.bool b)) hat.out).symm⟩
end Go.Proofs.Ytbkligcfllakeaa
