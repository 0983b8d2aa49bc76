/-
  LexerBack: for every row of raw tokens the law returns true: words with a blank between are scanned to tokens with just these words, and the end.
-/
import Derived.Test.YtgkgnfafjbjbnaaDoorWhereData
import Derived.Deep.RegionHeld3
import Derived.Deep.DeepCutAuto
namespace Go.Proofs.YtgkgnfafjbjbnaaDoor.lexerBack
open Go.ChangeShapes Go.WideShapes Go.ChangeAt Go.RowKit
open Go.Proofs.YtgkgnfafjbjbnaaDoor.lexerWhere (readOf readsTo reads_good reads_succ joinR_len)

theorem toksR_get : ∀ (l : List Read) (line col k : Nat) (h : k < l.length) (h' : k < (toksR l line col).length), (toksR l line col)[k] = Tok.of l[k] line (col + (joinR (l.take k)).length)
  | t :: l, line, col, 0, _, _ => by simp [toksR, joinR]
  | t :: l, line, col, k + 1, h, h' => by
    have hk : k < l.length := by simpa using h
    have hk' : k < (toksR l line (col + (wordOf t).length + 1)).length := by rw [toksR_length]; exact hk
    have := toksR_get l line (col + (wordOf t).length + 1) k hk hk'
    simp only [toksR, List.getElem_cons_succ, List.take_succ_cons, joinR, List.length_append, List.length_cons]
    rw [this, show col + (wordOf t).length + 1 + (joinR (l.take k)).length = col + ((wordOf t).length + ((joinR (l.take k)).length + 1)) by omega]
def wordB (t : Read) : ByteArray := ⟨(wordOf t).toArray⟩
theorem infoString : (Tryd.prog.info? 9).map (fun i => (i.zero, i.size, i.bytes)) = some (some (.string ⟨#[]⟩), 1, 16) := by kernel_rfl
/-- The call's own row of texts. -/
def OwnS (w : World) (base : Nat) (v : Value) (l : List ByteArray) : Prop := w.ownsRow base 9 1 v l.length (l.map Value.string)
theorem OwnS.form {w : World} {base : Nat} {l : List ByteArray} {v : Value} (h : OwnS w base v l) : ∃ a cap, v = .slice a l.length cap := by
  obtain ⟨_, hown⟩ := h
  rcases hown with ⟨rfl, hn⟩ | ⟨g, cap, cur, rfl, _⟩
  · exact ⟨none, 0, by rw [hn]⟩
  · exact ⟨_, _, rfl⟩
theorem OwnS.lies {w : World} {base : Nat} {l : List ByteArray} {v : Value} (h : OwnS w base v l) (k : Nat) (hk : v.ownBlock = some k) : base ≤ k ∧ k < w.heap.size := by
  obtain ⟨_, hown⟩ := h
  rcases hown with ⟨rfl, hn⟩ | ⟨g, cap, cur, rfl, hbg, hh, _⟩
  · simp [Value.ownBlock] at hk
  · simp [Value.ownBlock] at hk
    subst hk
    exact ⟨hbg, (Array.getElem?_eq_some_iff.1 hh).1⟩
theorem OwnS.stands {w w' : World} {base : Nat} {l : List ByteArray} {v : Value} (h : OwnS w base v l) (hb : Below w.heap.size w w') : OwnS w' base v l := by
  obtain ⟨hlen, hown⟩ := h
  refine ⟨hlen, ?_⟩
  rcases hown with h | ⟨g, cap, cur, rfl, hbg, hh, r⟩
  · exact .inl h
  · exact .inr ⟨g, cap, cur, rfl, hbg, (hb.block g (Array.getElem?_eq_some_iff.1 hh).1).trans hh, r⟩
theorem OwnS.at {w : World} {base : Nat} {l : List ByteArray} {a : Option Addr} {n cap : Nat} (h : OwnS w base (.slice a n cap) l) : l.length ≤ cap ∧ (0 < l.length → ∃ b, b < w.heap.size ∧ a = some ⟨b, 0, none⟩ ∧ ∀ i (hi : i < l.length), w.cell? ⟨b, i, none⟩ = some (.string l[i])) := by
  obtain ⟨hlen, hown⟩ := h
  rcases hown with ⟨h1, hn⟩ | ⟨g, cap', cur, h1, hbg, hh, hnc, hcm, hcs, htk⟩
  · cases h1
    exact ⟨by omega, fun h => by omega⟩
  · cases h1
    refine ⟨hnc, fun _ => ⟨g, (Array.getElem?_eq_some_iff.1 hh).1, rfl, fun i hi => ?_⟩⟩
    have hv : (l.map Value.string)[i]? = some (.string l[i]) := by simp [hi]
    rw [← htk, List.getElem?_take, if_pos (by omega)] at hv
    exact cell_of_block' hh _ (by rw [← Array.getElem?_toList]; exact hv)
theorem str_append {W : World} {base : Nat} {l : List ByteArray} {v : Value} (hown : OwnS W base v l) (hbase : base ≤ W.heap.size) (hlen : l.length ≤ 1000000) (x : ByteArray) (ty : TypeId) :
    ∃ (a : Option Addr) (n cap : Nat) (w6 : World), (Builtin.append_ #[36, 36] ty #[v, .slice (some ⟨W.heap.size, 0, none⟩) 1 1]).run Tryd.prog (W.alloc (.cells #[.string x] 9)) = .ok (.slice a n cap) w6 ∧
      OwnS w6 base (.slice a n cap) (l ++ [x]) ∧ Below base W w6 := by
  obtain ⟨i0, hi, hz0, hz1, hz2⟩ := info_parts infoString
  have hbW := stands_alloc W (.cells #[.string x] 9)
  have hsW := World.size_alloc W (.cells #[.string x] 9)
  have hnew := alloc_new' W (.cells #[.string x] 9)
  generalize W.alloc (.cells #[.string x] 9) = W' at *
  have hm := hown.stands hbW
  obtain ⟨v', w6, hrun, h1, h2, _, h5⟩ := run_append_own_at (P := Tryd.prog) W' base 36 ty 9 i0 _ 1 16 Tryd.underlying36 hi hz0 hz1 hz2 rfl (by decide) v l.length (l.map Value.string) hm ⟨W.heap.size, 0, none⟩ 1 1 [.string x] rfl
    (fun j u hj => by
      have e : ((⟨W.heap.size, 0, none⟩ : Addr).add j) = ⟨W.heap.size, j, none⟩ := add_lit0 _ _
      rw [e]
      exact cell_of_block' hnew u (by rw [← hj]; simp))
    (fun u hu => by simp at hu; subst hu; rfl) (by unfold maxLen; omega) (by omega) (by omega)
  have ho : OwnS w6 base v' (l ++ [x]) := by
    show w6.ownsRow _ _ _ _ _ _
    rw [List.length_append, List.map_append]; exact h1
  obtain ⟨a, cap, rfl⟩ := ho.form
  have hgs := h2.size
  refine ⟨a, _, cap, w6, hrun, ho, h2.os.trans hbW.os, h2.tape.trans hbW.tape, h2.output.trans hbW.output, by omega, fun k hk => ?_⟩
  exact (h2.block k (by omega) (fun e => by have := (OwnS.lies hown k e.symm).1; omega)).trans (hbW.block k (by omega))

theorem toks_end (l : List Read) (e : Tok) (k : Nat) (hk : l.length = k) (h : k < (toksR l 1 1 ++ [e]).length) : (toksR l 1 1 ++ [e])[k] = e := by
  subst hk
  rw [List.getElem_append_right (by rw [toksR_length]; omega)]
  simp [toksR_length]
theorem toks_at (l : List Read) (e : Tok) (q : Nat) (hq : q < l.length) (h : q < (toksR l 1 1 ++ [e]).length) : (toksR l 1 1 ++ [e])[q] = Tok.of l[q] 1 (1 + (joinR (l.take q)).length) := by
  rw [List.getElem_append_left (by rw [toksR_length]; exact hq)]
  exact toksR_get l 1 1 q hq _
theorem reads_get (l : List Raw) (k q : Nat) (hl : q < l.length) (h : q < (readsTo l k).length) : (readsTo l k)[q] = readOf l[q] := by simp [readsTo]
theorem reads_take (l : List Raw) (k q : Nat) (h : q ≤ k) : (readsTo l k).take q = readsTo l q := by rw [readsTo, ← List.map_take, List.take_take, Nat.min_eq_left h]; rfl
theorem reads_length (l : List Raw) (k : Nat) (h : k ≤ l.length) : (readsTo l k).length = k := by simp [readsTo]; omega
def TokCell (w : World) (b q : Nat) (x : Tok) : Prop := w.cell? ⟨b, q * 5, none⟩ = some (.int .i64 x.kind) ∧ w.cell? ⟨b, q * 5 + 1, none⟩ = some (.string ⟨x.text.toArray⟩) ∧ w.cell? ⟨b, q * 5 + 3, none⟩ = some (.int .i64 x.line) ∧ w.cell? ⟨b, q * 5 + 4, none⟩ = some (.int .i64 x.col)
theorem tok_facts {w : World} {l : List Raw} {k : Nat} {v : Value} {e : Tok} (hk : k ≤ l.length) (h : TokAt w v (toksR (readsTo l k) 1 1 ++ [e])) :
    ∃ b cap, v = .slice (some ⟨b, 0, none⟩) (k + 1) cap ∧ k + 1 ≤ cap ∧ b < w.heap.size ∧ w.cell? ⟨b, k * 5, none⟩ = some (.int .i64 e.kind) ∧
      ∀ w', Below w.heap.size w w' → ∀ q (_ : q < k) (hl : q < l.length), TokCell w' b q (Tok.of (readOf l[q]) 1 (1 + (joinR (readsTo l q)).length)) := by
  have hr := reads_length l k hk
  have hlen : (toksR (readsTo l k) 1 1 ++ [e]).length = k + 1 := by rw [List.length_append, toksR_length, hr]; rfl
  obtain ⟨a, cap, rfl, h2, h3⟩ := h
  obtain ⟨b, h4, rfl, h5⟩ := h3 (by omega)
  refine ⟨b, cap, by rw [hlen], by omega, h4, ?_, fun w' hb q hq hl => ?_⟩
  · have := (h5 k (by omega)).1
    rw [toks_end _ e k hr (by omega)] at this
    exact this
  · obtain ⟨g0, g1, -, g3, g4⟩ := h5 q (by omega)
    rw [toks_at _ e q (by omega) (by omega), reads_get l k q hl (by omega), reads_take l k q (by omega)] at g0 g1 g3 g4
    have hc : ∀ j, w'.cell? ⟨b, j, none⟩ = w.cell? ⟨b, j, none⟩ := fun j => hb.cell (p := ⟨b, j, none⟩) h4
    exact ⟨(hc _).trans g0, (hc _).trans g1, (hc _).trans g3, (hc _).trans g4⟩
theorem want_facts {w : World} {base : Nat} {l : List Raw} {k cap : Nat} {a : Option Addr} (hk : k ≤ l.length) (h : OwnS w base (.slice a k cap) ((readsTo l k).map wordB)) :
    k ≤ cap ∧ (0 < k → ∃ g, a = some ⟨g, 0, none⟩ ∧ ∀ w', Below w.heap.size w w' → ∀ q (_ : q < k) (hl : q < l.length), w'.cell? ⟨g, q, none⟩ = some (.string (wordB (readOf l[q])))) := by
  have hr := reads_length l k hk
  have hm : ((readsTo l k).map wordB).length = k := by rw [List.length_map, hr]
  obtain ⟨h1, h2⟩ := h.at
  refine ⟨by omega, fun h0 => ?_⟩
  obtain ⟨g, h3, rfl, h4⟩ := h2 (by omega)
  refine ⟨g, rfl, fun w' hb q hq hl => ?_⟩
  have := h4 q (by omega)
  rw [List.getElem_map, reads_get l k q hl (by omega)] at this
  exact (hb.cell (p := ⟨g, q, none⟩) h3).trans this
theorem word_quote (t : Read) (h : t.kind = 4) : wordB t = (⟨#[34]⟩ ++ ⟨t.text.toArray⟩) ++ ⟨#[34]⟩ := by
  apply ByteArray.ext
  apply Array.toList_inj.1
  rw [bytes_app, bytes_app, wordB, wordOf, if_pos h]; simp
theorem word_plain (t : Read) (h : t.kind ≠ 4) : wordB t = ⟨t.text.toArray⟩ := by rw [wordB, wordOf, if_neg h]

set_option maxRecDepth 100000 in
set_option maxHeartbeats 16000000 in
theorem walk (l : List Raw) (W : World) (v : Value) (hok : SignsOk W) (hl : RepR W l v) :
    Calls Tryd.prog 7 #[v] W fun e W' => e = .returned (.bool true) ∧ Below W.heap.size W W' := by
  have HOK := Lib.hid hok
  have hg := signs_lt hok
  have HL := Lib.hid hl
  obtain ⟨ra, rb, ro, rc, rfl, hrc, hrm, -⟩ := hl
  unfold maxLen at hrm
  clear hok
  go_enter Tryd.func7, Tryd.ntmps7
  go_wp2_with fail
  refine (awake3_any _ hg HOK.out).mono ?_
  rintro e w1 ⟨rfl, b1⟩
  have HL1 := Lib.hid (HL.out.on b1)
  have B1 := Lib.hid b1
  clear b1
  go_wp2_with fail
  obtain ⟨n, hn⟩ : ∃ n, n = min l.length 60 := ⟨_, rfl⟩
  go_loopw [4, 5, 6, 7] (fun s wv i _ wr => ∃ (k : Nat) (sb : ByteArray), k ≤ n ∧ s = .string sb ∧ Hid (sb.data.toList = joinR (readsTo l k)) ∧ Hid (OwnS wr w1.heap.size wv ((readsTo l k).map wordB)) ∧ i = .int .i64 k ∧ Below w1.heap.size w1 wr) (fun _ _ i _ _ => n - (intOf i).toNat)
  case atStart => exact ⟨0, ⟨#[]⟩, Nat.zero_le _, rfl, rfl, World.ownsRow_nil _ _ _ _, rfl, Below.refl _ _⟩
  case round =>
    obtain ⟨k, sb, hk, rfl, hsb, hown, rfl, hbel⟩ := hrel
    generalize wr = w2 at *
    have HBEL := Lib.hid hbel
    have hssz : sb.size ≤ 2100 := by
      have h1 := joinR_len l k
      have h3 := list_len sb
      rw [hsb.out] at h3
      omega
    have hrl : ((readsTo l k).map wordB).length = k := by simp [readsTo]; omega
    have HRL := Lib.hid hrl
    obtain ⟨wa, wc0, hwv⟩ := hown.out.form
    rw [hrl] at hwv
    subst hwv
    clear hrl
    have HL2 := Lib.hid (HL1.out.on hbel)
    have hs12 := hbel.size
    clear hbel
    by_cases hlt : k < n
    · have hkl : k < l.length := by omega
      have hk60 : k < 60 := by omega
      obtain ⟨ra', rb', ro', rc', he, -, -, hra, hcell⟩ := HL2.out
      cases he
      obtain ⟨rfl, hrb⟩ := hra (by omega)
      obtain ⟨q0, q1, q2, hraw⟩ := hcell k hkl
      have HPS := Lib.hid (reads_succ hkl)
      obtain ⟨-, -, hwl⟩ := rawR_facts l[k].kind l[k].s l[k].n
      generalize l[k] = x at *
      clear hcell hra hn
      have HRAW := Lib.hid hraw
      clear hraw
      have hwz : (⟨(wordOf (rawR x.kind x.s x.n)).toArray⟩ : ByteArray).size ≤ 34 := by rw [size_mk]; exact hwl
      have HWL : Hid ((⟨(wordOf (rawR x.kind x.s x.n)).toArray⟩ : ByteArray) = wordB (readOf x)) := by show _ = _; rfl
      have HWC := Lib.hid (fun (w : World) => word_any x.kind x.s x.n w HRAW.out.1 (by have := HRAW.out.2.1; omega) HRAW.out.2.2)
      unfold WordPost at HWC
      generalize (⟨(wordOf (rawR x.kind x.s x.n)).toArray⟩ : ByteArray) = wd at *
      go_wp2_with fail
      go_cut [7] (fun s7 wx => s7 = .string wd ∧ Below w2.heap.size w2 wx)
      case first =>
        have hsk : w2.heap.size ≤ w2.drew.heap.size := Nat.le_refl _
        go_region_held3 (fun w' => w'.cell? ⟨rb', ro' + k * 3, none⟩ = some (.int .i64 x.kind) ∧ w'.cell? ⟨rb', ro' + k * 3 + 1, none⟩ = some (.string x.s) ∧ w'.cell? ⟨rb', ro' + k * 3 + 2, none⟩ = some (.int .i64 x.n))
          (first | exact ⟨q0, q1, q2⟩ | exact ⟨(b3.cell (p := ⟨rb', ro' + k * 3, none⟩) hrb).trans q0, (b3.cell (p := ⟨rb', ro' + k * 3 + 1, none⟩) hrb).trans q1, (b3.cell (p := ⟨rb', ro' + k * 3 + 2, none⟩) hrb).trans q2⟩)
          (first | (go_at_call 36; refine (HWC.out _).mono ?_; rintro e w3 ⟨rfl, b3⟩))
        all_goals
          go_wp2_with fail
          go_meet
          exact ⟨rfl, Below.trans (Below.drew (Below.refl _ _)) b3⟩
      case rest =>
        obtain ⟨rfl, hb3⟩ := hcut
        generalize wc = w3 at *
        have hs3 := hb3.size
        obtain ⟨va, vn, vc, w6, hrun, ho6, hb6⟩ := str_append (hown.out.stands hb3) (by omega) (by rw [HRL.out]; omega) wd 36
        have HRUN := Lib.hid hrun
        have HS : Hid ((sb ++ wd ++ ⟨#[32]⟩ : ByteArray).data.toList = joinR (readsTo l (k + 1))) := by
          show _ = _
          rw [HPS.out, joinR_snoc, bytes_app, bytes_app, hsb.out, HWL.out]; simp [wordB]
        have HO6 : Hid (OwnS w6 w1.heap.size (.slice va vn vc) ((readsTo l (k + 1)).map wordB)) := by
          show OwnS _ _ _ _
          rw [HPS.out, List.map_append, List.map_cons, List.map_nil, ← HWL.out]; exact ho6
        have HB6 := Lib.hid ((HBEL.out.trans (hb3.mono HBEL.out.size)).trans hb6)
        clear hrun ho6 hb6 hb3 q0 q1 q2
        go_wp2_with (at_builtin; refine Lib.wpList_append_run _ rfl _ _ _ _ rfl _ _ rfl rfl _ _ HRUN.out ?_)
        go_roundw
        case rel => exact ⟨k + 1, _, by omega, rfl, HS, HO6, by go_num, HB6.out⟩
        case measure => first | (simp [intOf]; omega) | simp [intOf]
    · have hke : k = n := by omega
      have hk60 : k ≤ 60 := by omega
      have hkl : k ≤ l.length := by omega
      have hcase : l.length ≤ k ∨ (k < l.length ∧ k = 60) := by omega
      have HSC : Hid (scanB sb = .ok (toksR (readsTo l k) 1 1 ++ [⟨6, [], 0, 1, 1 + (joinR (readsTo l k)).length⟩])) := by
        show _ = _
        have h := scan_join (readsTo l k) [] 1 1 (reads_good l k)
        rw [List.append_nil, scanS_nil] at h
        rw [scanB, if_neg (by omega), hsb.out, h]; rfl
      have B2 := Lib.hid (Below.step B1.out HBEL.out)
      clear hke hn hlt hk
      obtain ⟨kk, hkk⟩ : ∃ kk, kk = k := ⟨_, rfl⟩
      rcases hcase with hca | ⟨hca, hcb⟩
      case' inr => subst hcb
      all_goals
        go_wp2_with fail
        refine (scan_any sb _ (by unfold maxLen; omega) (Nat.lt_of_lt_of_le hg B2.out.size) (HOK.out.below hg B2.out)).mono ?_
        rw [HSC.out]
        rintro e w5 ⟨va, rfl, ho, b5⟩
        have hW6 := (hown.out.stands b5).stands (stands_alloc w5 (.cells #[.int .i64 0, .int .i64 0] 48))
        obtain ⟨hwc, hwt⟩ := want_facts hkl hW6
        have HWT := Lib.hid hwt
        obtain ⟨b, uc, rfl, huc, hbl, hkd, htk⟩ := tok_facts hkl (ho.tok.on (stands_alloc w5 (.cells #[.int .i64 0, .int .i64 0] 48)))
        have HTK := Lib.hid htk
        have HL6 := Lib.hid ((HL2.out.on b5).on (stands_alloc w5 (.cells #[.int .i64 0, .int .i64 0] 48)))
        have B6 := Lib.hid (Below.step (Below.step B2.out b5) (stands_alloc w5 (.cells #[.int .i64 0, .int .i64 0] 48)))
        clear hW6 hwt htk ho b5 hown HOK HSC hs12 HBEL HRL
        try simp only [Nat.reduceMul, Nat.reduceAdd] at hkd huc
        go_wp2_with fail
        generalize w5.alloc (.cells #[.int .i64 0, .int .i64 0] 48) = w6 at *
        clear hkd
        go_loopw [11, 12, 13] (fun c i _ wr => ∃ q m : Nat, q ≤ kk ∧ m ≤ 2100 ∧ Hid ((joinR (readsTo l q)).length = m) ∧ c = .int .i64 (m + 1) ∧ i = .int .i64 q ∧ Below w6.heap.size w6 wr) (fun _ i _ _ => kk - (intOf i).toNat)
        case atStart => exact ⟨0, 0, Nat.zero_le _, by omega, rfl, rfl, rfl, Below.refl _ _⟩
        case round =>
          obtain ⟨q, m, hq, hm, hjm, rfl, rfl, hbel⟩ := hrel
          generalize wr = w7 at *
          have HBEL := Lib.hid hbel
          by_cases hlt : q < kk
          · rw [hkk] at hlt
            have hql : q < l.length := by omega
            have hq60 : q < 60 := by omega
            obtain ⟨g, rfl, hwcell⟩ := HWT.out (by omega)
            have wc1 := hwcell w7 hbel q hlt hql
            obtain ⟨t0, t1, t3, t4⟩ := HTK.out w7 hbel q hlt hql
            obtain ⟨ra', rb', ro', rc', he, -, -, hra, hcell⟩ := HL6.out.on hbel
            cases he
            obtain ⟨rfl, hrb⟩ := hra (by omega)
            obtain ⟨q0, -, -, hraw⟩ := hcell q hql
            have HPS := reads_succ hql
            obtain ⟨-, hkind, hwl⟩ := rawR_facts l[q].kind l[q].s l[q].n
            generalize l[q] = x at *
            clear hcell hra hwcell hbel
            change (wordOf (readOf x)).length ≤ 34 at hwl
            change (readOf x).kind = 1 + pickZ x.kind 5 at hkind
            have HNX : Hid ((joinR (readsTo l (q + 1))).length = m + (wordOf (readOf x)).length + 1) := by
              show _ = _
              rw [HPS, joinR_snoc, List.length_append, List.length_append, hjm.out]; rfl
            have HPK := Lib.hid (fun (w : World) => ((pick3_any x.kind 5 w hraw.1 (by omega) (by omega)).mono fun e w' h => (⟨h.1, h.2.symm⟩ : e = .returned (.int .i64 (pickZ x.kind 5)) ∧ w' = w)))
            obtain ⟨p1, p2⟩ := pickZ_bd x.kind 5 (by omega)
            simp only [Tok.of] at t0 t1 t3 t4
            rw [hkind] at t0
            rw [hjm.out, show (((1 + m : Nat)) : Int) = (m : Int) + 1 by omega] at t4
            have hjl : m + (wordOf (readOf x)).length + 1 ≤ 35 * (q + 1) := by rw [← HNX.out]; exact joinR_len l (q + 1)
            clear HPS hjm
            generalize pickZ x.kind 5 = p at *
            clear hraw
            generalize readOf x = r at *
            by_cases h4 : p = 3
            · have hw := word_quote r (by omega)
              have hsz : (wordOf r).length = (⟨r.text.toArray⟩ : ByteArray).size + 2 := by
                have := size_mk (wordOf r)
                rw [← this]
                show (wordB r).size = _
                rw [hw, ByteArray.size_append, ByteArray.size_append]
                show 1 + _ + 1 = _
                omega
              rw [hw] at wc1
              rw [hsz] at HNX hwl hjl
              subst h4
              clear hw hsz hkind
              generalize (⟨r.text.toArray⟩ : ByteArray) = tb at *
              go_wp2_with fail
              go_quiet (first | exact Calls.quiet_of_same (HPK.out _) | (go_at_call 37; exact Calls.quiet_of_same (HPK.out _)))
              go_wp2_with fail
              go_roundw
              case rel => exact ⟨q + 1, m + (tb.size + 2) + 1, by omega, by omega, HNX, by go_num, by go_num, below_drewN HBEL.out _⟩
              case measure => first | (simp [intOf]; omega) | simp [intOf]
            · have hw := word_plain r (by omega)
              have hsz : (wordOf r).length = (⟨r.text.toArray⟩ : ByteArray).size := (size_mk _).symm.trans (congrArg ByteArray.size hw)
              have e1 : ((1 + p : Int) == 4) = false := beq_eq_false_iff_ne.2 (by omega)
              have e2 : IntKind.i64.wrap (1 + p) = 1 + p := by rw [IntKind.wrap_i64]; omega
              rw [hw] at wc1
              rw [hsz] at HNX hwl hjl
              clear hw hsz hkind h4
              generalize (⟨r.text.toArray⟩ : ByteArray) = tb at *
              go_wp2_with fail
              go_quiet (first | exact Calls.quiet_of_same (HPK.out _) | (go_at_call 37; exact Calls.quiet_of_same (HPK.out _)))
              go_wp2_with fail
              go_roundw
              case rel => exact ⟨q + 1, m + tb.size + 1, by omega, by omega, HNX, by go_num, by go_num, below_drewN HBEL.out _⟩
              case measure => first | (simp [intOf]; omega) | simp [intOf]
          · have hke : q = kk := by omega
            rw [hkk] at hke
            subst hke
            have B7 := Lib.hid (Below.step B6.out hbel)
            go_wp2_with fail
            go_ret
            exact ⟨rfl, B7.out⟩

end Go.Proofs.YtgkgnfafjbjbnaaDoor.lexerBack
