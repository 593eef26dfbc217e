/- The document's Wants, of a host; records that are said, and its Change. -/
import Derived.Test.YtmcbbccbonadjaaW0
import Derived.Test.YtmcbbccbonadjaaW1
import Derived.Test.YtmcbbccbonadjaaW2
import Derived.Test.YtmcbbccbonadjaaW3
import Derived.Test.YtmcbbccbonadjaaW4
import Derived.Test.YtmcbbccbonadjaaW5
import Derived.Test.YtmcbbccbonadjaaW6
import Derived.Test.YtmcbbccbonadjaaW7
import Derived.Test.YtmcbbccbonadjaaW8
import Derived.Test.YtmcbbccbonadjaaW9
import Derived.Test.YtmcbbccbonadjaaW10
import Derived.Test.YtmcbbccbonadjaaW11
import Derived.Test.YtmcbbccbonadjaaW12
import Derived.Test.YtmcbbccbonadjaaW13
namespace Go.Proofs.Ytmcbbccbonadjaa
set_option linter.unusedVariables false
open Go.RowKit

/-- Few sockets of few sources, which are sets. -/
def FewI (ss : List Sk) : Prop := ss.length ≤ 40 ∧ ∀ s ∈ ss, s.f.srcs.length ≤ 16 ∧ Inc s.f.srcs
theorem okH_fewI {ss : List Sk} (h : okH ss) : FewI ss := ⟨by have := h.2.2; omega, fun s hs => ⟨(h.1 s hs).2.2.1, (h.1 s hs).2.2.2⟩⟩
theorem FewI.tot {ss : List Sk} (h : FewI ss) (g : Int) : (∀ f ∈ ofG g ss, Inc f.srcs) ∧ tot (ofG g ss) ≤ 2000 := by
  have hm : ∀ f ∈ ofG g ss, f.srcs.length ≤ 16 ∧ Inc f.srcs := fun f hf => by
    obtain ⟨s, hs, rfl⟩ := List.mem_map.1 hf
    exact h.2 s (List.mem_filter.1 hs).1
  refine ⟨fun f hf => (hm f hf).2, ?_⟩
  have hl : (ofG g ss).length ≤ 40 := Nat.le_trans (ofG_len g ss) h.1
  have ht : ∀ fs : List Flt, (∀ f ∈ fs, f.srcs.length ≤ 16 ∧ Inc f.srcs) → Go.Proofs.Ytmcbbccbonadjaa.tot fs ≤ fs.length * 17 := by
    intro fs
    induction fs with
    | nil => intro _; simp [Go.Proofs.Ytmcbbccbonadjaa.tot]
    | cons f r ih =>
      intro h
      have h1 := (h f (List.mem_cons_self ..)).1
      have h2 := ih fun g hg => h g (List.mem_cons_of_mem _ hg)
      simp only [Go.Proofs.Ytmcbbccbonadjaa.tot, List.length_cons]
      omega
  have := ht _ hm
  omega
theorem FewI.few {ss : List Sk} (h : FewI ss) : FewS ss := ⟨by have := h.1; omega, fun s hs => by have := (h.2 s hs).1; omega⟩
set_option maxRecDepth 100000 in
set_option maxHeartbeats 4000000 in
theorem rWantsH (a : Option Addr) (n c : Nat) (ss : List Sk) (g : Int) (w : World) (hx : ss.length = n) (hfew : FewI ss) (hH : Sks w a ss) :
    Calls Try.prog 33 #[.agg #[.slice a n c], .int .u32 g] w fun e w' => OutF w e w' (wants g ss) := by
  obtain ⟨i0, hi, hz0, hz1, hz2⟩ := info_parts infoF
  have HX := Lib.hid hx
  have HH := Lib.hid hH
  have HI := Lib.hid hfew
  have HW := Lib.hid hfew.few
  have hn4 : n ≤ 40 := by rw [← hx]; exact hfew.1
  clear hx hH hfew
  go_enter Try.func33, Try.ntmps33
  go_wp2
  have hbN := bel1 (w.alloc (.cells #[.slice a n c] 36)) (.cells #[.bool false, .slice none 0 0] 25)
  have hR0 := Go.Deep.blk_alloc_new (w.alloc (.cells #[.slice a n c] 36)) (.cells #[.bool false, .slice none 0 0] 25)
  have hb0 := bel1 w (.cells #[.slice a n c] 36)
  have p0 := host_new w (.slice a n c)
  have hs0 : (w.alloc (.cells #[.slice a n c] 36)).heap.size = w.heap.size + 1 := World.size_alloc _ _
  have hp1 := (hbN.cell (cell_lt p0)).trans p0
  rw [hs0] at hbN hR0
  have HB0 := Lib.hid hb0
  have HBN := Lib.hid hbN
  have HR0 := Lib.hid hR0
  have HP1 := Lib.hid hp1
  clear p0 hp1
  generalize w.alloc (.cells #[.slice a n c] 36) = w1 at *
  generalize w1.alloc (.cells #[.bool false, .slice none 0 0] 25) = w2 at *
  clear hb0 hbN hR0
  go_loopw [5, 6] (fun v5 v6 wr => ∃ (k : Nat) (a5 : Option Addr) (c5 : Nat), v5 = .slice a5 (ofG g (ss.take k)).length c5 ∧ v6 = .int .i64 (k : Int) ∧ k ≤ n ∧ wr.ownsRow (w.heap.size + 2) 25 2 (.slice a5 (ofG g (ss.take k)).length c5) (ofG g (ss.take k)).length (fv (ofG g (ss.take k))) ∧
    Below (w.heap.size + 1) w1 wr ∧ wr.heap[w.heap.size + 1]? = some (.cells #[.bool false, .slice none 0 0] 25 (0, 0)) ∧ wr.cell? ⟨w.heap.size, 0, none⟩ = some (.slice a n c)) (fun _ v _ => n - (intOf v).toNat)
  case atStart => exact ⟨0, none, 0, by simp [ofG], rfl, by omega, by simpa [ofG, fv] using World.ownsRow_nil _ _ _ _, HBN.out, HR0.out, HP1.out⟩
  case round =>
    obtain ⟨k, a5, c5, rfl, rfl, hk, ho, hB, hR, hc0⟩ := hrel
    have HO := Lib.hid ho
    have HB := Lib.hid hB
    have HR := Lib.hid hR
    have HC := Lib.hid hc0
    have hNs : w.heap.size + 1 < wr.heap.size := (Array.getElem?_eq_some_iff.1 hR).1
    have hol : (ofG g (ss.take k)).length ≤ 400 := (ofG_few (HW.out.take k)).1
    have HBW := Lib.hid (HB0.out.trans (HB.out.mono (by omega)))
    clear ho hB hR
    by_cases hlt : k < n
    · obtain ⟨b, off, rfl, hc⟩ := HH.out.at (k := k) (by rw [HX.out]; exact hlt)
      obtain ⟨⟨id, gr, ⟨ex, srcs, fa, fc⟩⟩, hfk⟩ : ∃ s, ss[k]? = some s := ⟨_, List.getElem?_eq_getElem (by rw [HX.out]; exact hlt)⟩
      obtain ⟨⟨d0, d1, d2, d3⟩, hfo, -⟩ := (hc k _ hfk).below HBW.out
      simp only [Flt.sl] at d0 d1 d2 d3 hfo
      have d4 : wr.cell? ⟨b, off + k * 4 + 2 + 1, none⟩ = some (.slice fa srcs.length fc) := d3
      have HFK := Lib.hid hfk
      have hkz : (k : Int) < (n : Int) := by omega
      clear hc hfk hfo
      by_cases hg : gr = g
      · have hg1 : (gr == g) = true := by simpa using hg
        have HG := Lib.hid hg1
        have hn1 := news_new wr [.bool ex, .slice fa srcs.length fc] 25
        have HN1 := Lib.hid hn1
        clear hn1 hg
        go_wp2_with ((refine wpList_app_cell rfl 22 25 i0 _ 2 32 Try.underlying22 hi hz0 hz1 hz2 rfl (by decide) (by omega) (.tmp 22) (.tmp 29) rfl (w.heap.size + 2) _ (ofG g (ss.take k)).length (fv (ofG g (ss.take k))) rfl (HO.out.alloc _) ⟨wr.heap.size, 0, none⟩ 1 [.bool ex, .slice fa srcs.length fc] rfl rfl HN1.out (by simp [Value.oneCell']) (by omega) (by simp; omega) ?_; intro a' cap' w' hown hg))
        go_roundw
        case rel =>
          have e : ofG g (ss.take (k + 1)) = ofG g (ss.take k) ++ [⟨ex, srcs, fa, fc⟩] := by rw [takeS HFK.out]; exact ofG_yes HG.out
          have hgb := grown_below (HO.out.alloc (.cells #[.bool ex, .slice fa srcs.length fc] 25)) hg.out (by simp; omega)
          refine ⟨k + 1, a', cap', by rw [e, List.length_append]; rfl, by go_num, by omega, ?_, HB.out.trans (((Below.refl _ wr).alloc (by omega) _).trans (hgb.mono (by omega))), ?_, ?_⟩
          · rw [e, List.length_append, fv_snoc]; exact hown.out
          · exact (hgb.block (w.heap.size + 1) (by omega)).trans (blk_alloc HR.out _)
          · exact (hgb.cell (p := ⟨w.heap.size, 0, none⟩) (by show w.heap.size < _; omega)).trans (((bel1 wr _).cell (cell_lt HC.out)).trans HC.out)
        case measure => simp [intOf]; omega
      · have hg1 : (gr == g) = false := by simpa using hg
        have HG := Lib.hid hg1
        clear hg
        go_wp2
        go_roundw
        case rel =>
          have e : ofG g (ss.take (k + 1)) = ofG g (ss.take k) := by rw [takeS HFK.out]; exact ofG_no HG.out
          exact ⟨k + 1, a5, c5, by rw [e], by go_num, by omega, by rw [e]; exact HO.out, HB.out, HR.out, HC.out⟩
        case measure => simp [intOf]; omega
    · obtain rfl : k = n := by omega
      have htk : ss.take k = ss := List.take_of_length_le (by rw [HX.out]; exact Nat.le_refl _)
      have HO' := HO.out
      rw [htk] at HO' hol ⊢
      have HO2 := Lib.hid HO'
      clear HO HO' htk
      have hfl := own_fls HO2.out rfl (fun f hf => by
        obtain ⟨s, hs, rfl⟩ := List.mem_map.1 hf
        exact ((HH.out.mem (List.mem_filter.1 hs).1).1.below HBW.out))
      have HFL := Lib.hid hfl
      clear hfl
      go_wp2_with fail
      refine (rFilter a5 _ c5 (ofG g ss) _ rfl (HI.out.tot g) HFL.out).mono ?_
      rintro e w6 ⟨⟨a6, c6, rfl, hA6, hf6⟩, hB6⟩
      have HF6 := Lib.hid hf6
      obtain ⟨⟨⟨r0, r1⟩, q0, q1⟩, hl, hA', hb'⟩ := fin_filter ((hB6.block _ hNs).trans HR.out) (HB.out.trans (hB6.mono (by omega))) hA6 (flt (ofG g ss)).1 c6
      have HL := Lib.hid hl
      have HA' := Lib.hid hA'
      have HB' := Lib.hid (HB0.out.trans (hb'.mono (by omega)))
      clear hl hA' hb' hA6 hf6 hB6
      go_wp2_with fail
      refine ret_cell1 (p := 4) rfl rfl rfl HL.out ?_
      exact ⟨⟨a6, c6, rfl, HA'.out, HF6.out⟩, HB'.out⟩
/-- A record more, if it has sources. -/
def sayR (kind g : Int) (ls : List Int) (b : Option Addr) (cb : Nat) : List Rc := if ls = [] then [] else [⟨kind, g, ls, b, cb⟩]
set_option maxRecDepth 100000 in
set_option maxHeartbeats 2000000 in
theorem rSaid (kind g : Int) (a : Option Addr) (n c : Nat) (rs : List Rc) (B : Nat) (b : Option Addr) (m cb : Nat) (ls : List Int) (w : World) (hy : ls.length = m) (hn : n ≤ 1000) (hm : m ≤ 1000000) (hown : w.ownsRow B 68 3 (.slice a n c) n (rv rs)) (hB : B ≤ w.heap.size) :
    Calls Try.prog 53 #[.slice a n c, .int .u8 kind, .int .u32 g, .slice b m cb] w fun e w' => ∃ a' n' c', e = .returned (.slice a' n' c') ∧ w'.ownsRow B 68 3 (.slice a' n' c') n' (rv (rs ++ sayR kind g ls b cb)) ∧ n' = n + (sayR kind g ls b cb).length ∧ Below B w w' := by
  obtain ⟨i0, hi, hz0, hz1, hz2⟩ := info_parts infoRec
  have HO := Lib.hid hown
  have HY := Lib.hid hy
  clear hown hy
  by_cases h0 : ls = []
  · subst h0
    obtain rfl : m = 0 := by simpa using HY.out.symm
    go_enter Try.func53, Try.ntmps53
    go_wp2_with fail
    go_ret
    exact ⟨a, n, c, rfl, by simpa [sayR] using HO.out, by simp [sayR], Below.refl _ _⟩
  · have hm0 : ((m : Int) == 0) = false := beq_eq_false_iff_ne.2 (by have := List.length_pos_iff.2 h0; have := HY.out; omega)
    have HS : Hid (sayR kind g ls b cb = [⟨kind, g, ls, b, cb⟩]) := Lib.hid (if_neg h0)
    have HN1 := Lib.hid (news_new w [.int .u8 kind, .int .u32 g, .slice b m cb] 68)
    clear h0
    go_enter Try.func53, Try.ntmps53
    go_wp2_with ((refine wpList_app_cell rfl 42 68 i0 _ 3 32 Try.underlying42 hi hz0 hz1 hz2 rfl (by decide) (by omega) (.tmp 13) (.tmp 18) rfl B _ n (rv rs) rfl (HO.out.alloc _) ⟨w.heap.size, 0, none⟩ 1 [.int .u8 kind, .int .u32 g, .slice b m cb] rfl rfl HN1.out (by simp [Value.oneCell']) (by omega) (by simp; omega) ?_; intro a' cap' w' hown hg))
    go_ret
    rw [HS.out]
    refine ⟨a', n + 1, cap', rfl, ?_, rfl, ((Below.refl B w).alloc hB _).trans (grown_below (HO.out.alloc _) hg.out (by simp; omega))⟩
    rw [rv_snoc]
    simp only [Rc.cs, Rc.sl, HY.out]
    exact hown.out
theorem sayR_nm (kind g : Int) (ls : List Int) (b : Option Addr) (cb : Nat) : (sayR kind g ls b cb).map Rc.nm = sayR kind g ls none 0 := by unfold sayR; split <;> rfl
theorem said_two (k1 k2 g : Int) (h1 : k1 = 5) (h2 : k2 = 6) (l1 l2 : List Int) : said g [⟨k1, 0, l1, none, 0⟩, ⟨k2, 0, l2, none, 0⟩] = sayR k1 g l1 none 0 ++ sayR k2 g l2 none 0 := by
  subst h1 h2
  unfold said sayR
  rcases l1 with _ | ⟨x, l1⟩ <;> rcases l2 with _ | ⟨y, l2⟩ <;> simp [keep]
set_option maxRecDepth 100000 in
set_option maxHeartbeats 8000000 in
theorem rChange (g : Int) (e1 e2 : Bool) (a b : Option Addr) (la lb ca cb : Nat) (xs ys : List Int) (w : World) (hx : xs.length = la) (hy : ys.length = lb) (hla : la ≤ 100000) (hlb : lb ≤ 100000) (i1 : Inc xs) (i2 : Inc ys) (h1 : As w a xs) (h2 : As w b ys) (hnb : b = none → cb = 0) :
    Calls Try.prog 27 #[.int .u32 g, .agg #[.bool e1, .slice a la ca], .agg #[.bool e2, .slice b lb cb]] w fun e w' => OutR w e w' (change g e1 xs e2 ys) := by
  have hb2 := bel2 w (.cells #[.bool e1, .slice a la ca] 25) (.cells #[.bool e2, .slice b lb cb] 25)
  obtain ⟨p0, p1⟩ := filt_new w (.bool e1) (.slice a la ca)
  obtain ⟨q0, q1⟩ := filt_new (w.alloc (.cells #[.bool e1, .slice a la ca] 25)) (.bool e2) (.slice b lb cb)
  rw [World.size_alloc] at q0 q1
  have hb1 := bel1 (w.alloc (.cells #[.bool e1, .slice a la ca] 25)) (.cells #[.bool e2, .slice b lb cb] 25)
  have CA0 := Lib.hid ((hb1.cell (cell_lt p0)).trans p0)
  have CA1 := Lib.hid ((hb1.cell (cell_lt p1)).trans p1)
  have CB0 := Lib.hid q0
  have CB1 := Lib.hid q1
  have HBW := Lib.hid hb2
  have HX := Lib.hid hx
  have HY := Lib.hid hy
  have H1 := Lib.hid (h1.below hb2)
  have H2 := Lib.hid (h2.below hb2)
  have HNB := Lib.hid hnb
  have I1 := Lib.hid i1
  have I2 := Lib.hid i2
  clear hx hy h1 h2 hnb p0 p1 q0 q1 hb1 hb2 i1 i2
  by_cases he : e1 = e2
  · subst he
    have hee : (e1 != e1) = false := by simp
    go_enter Try.func27, Try.ntmps27
    go_wp2_with fail
    generalize (w.alloc (.cells #[.bool e1, .slice a la ca] 25)).alloc (.cells #[.bool e1, .slice b lb cb] 25) = w1 at *
    refine (rMinus b a lb la cb ca ys xs w1 HY.out HX.out (by omega) (by omega) H2.out H1.out).mono ?_
    rintro e w3 ⟨⟨a3, c3, rfl, hA3, hf3⟩, hb⟩
    rw [minus_dif I2.out I1.out] at hA3 hf3 ⊢
    have H1 := Lib.hid (H1.out.below hb)
    have H2 := Lib.hid (H2.out.below hb)
    have HA3 := Lib.hid hA3
    have HF3 := Lib.hid (flat_nil' hf3)
    have HB3 := Lib.hid (HBW.out.trans (hb.mono HBW.out.size))
    have ca0 := (hb.cell (cell_lt CA0.out)).trans CA0.out
    have ca1 := (hb.cell (cell_lt CA1.out)).trans CA1.out
    have cb0 := (hb.cell (cell_lt CB0.out)).trans CB0.out
    have cb1 := (hb.cell (cell_lt CB1.out)).trans CB1.out
    clear hA3 hf3 hb CA0 CA1 CB0 CB1
    go_wp2_with fail
    refine (rMinus a b la lb ca cb xs ys w3 HX.out HY.out (by omega) (by omega) H1.out H2.out).mono ?_
    rintro e w4 ⟨⟨a4, c4, rfl, hA4, hf4⟩, hb⟩
    rw [minus_dif I1.out I2.out] at hA4 hf4 ⊢
    have HA3 := Lib.hid (HA3.out.below hb)
    have HA4 := Lib.hid hA4
    have HF4 := Lib.hid (flat_nil' hf4)
    have HB4 := Lib.hid (HB3.out.trans (hb.mono HB3.out.size))
    replace cb0 := (hb.cell (cell_lt cb0)).trans cb0
    have hd1 := dif_len ys xs
    have hd2 := dif_len xs ys
    have hl1 : (dif ys xs).length ≤ 100000 := by have := HY.out; omega
    have hl2 : (dif xs ys).length ≤ 100000 := by have := HX.out; omega
    clear hA4 hf4 hb ca0 ca1 cb1 hd1 hd2
    cases e1
    · have HC : Hid (change g false xs false ys = sayR 5 g (dif ys xs) none 0 ++ sayR 6 g (dif xs ys) none 0) := Lib.hid (said_two 5 6 g rfl rfl _ _)
      go_wp2_with fail
      refine (rSaid 5 g none 0 0 [] w4.heap.size a3 _ c3 (dif ys xs) w4 rfl (by omega) (by omega) (World.ownsRow_nil _ _ _ _) (Nat.le_refl _)).mono ?_
      rintro e w5 ⟨a5, n5, c5, rfl, hown, hn5, hb⟩
      rw [List.nil_append] at hown
      have HO5 := Lib.hid hown
      have HB5 := Lib.hid hb
      have hn5' : n5 ≤ 1 := by rw [hn5]; unfold sayR; split <;> simp
      clear hown hb hn5 cb0
      go_wp2_with fail
      refine (rSaid 6 g a5 n5 c5 _ w4.heap.size a4 _ c4 (dif xs ys) w5 rfl (by omega) (by omega) HO5.out HB5.out.size).mono ?_
      rintro e w6 ⟨a6, n6, c6, rfl, hown, -, hb⟩
      have HO6 := Lib.hid hown
      have HB6 := Lib.hid (HB5.out.trans hb)
      clear hown hb
      go_wp2_with fail
      go_ret
      rw [HC.out]
      have hle : (sayR 5 g (dif ys xs) a3 c3 ++ sayR 6 g (dif xs ys) a4 c4).length = n6 := by have := HO6.out.1; rw [rv_len] at this; omega
      have hrc := own_rcs HO6.out hle (fun r hr => by
        rcases List.mem_append.1 hr with h | h <;> (unfold sayR at h; split at h)
        · cases h
        · simp at h; subst h; exact ⟨HA3.out.below HB6.out, HF3.out⟩
        · cases h
        · simp at h; subst h; exact ⟨HA4.out.below HB6.out, HF4.out⟩)
      obtain ⟨a', c', e', hfl⟩ := own_sl HO6.out
      cases e'
      exact ⟨⟨a6, c6, _, by rw [hle]; rfl, by rw [List.map_append, List.map_append, sayR_nm, sayR_nm, sayR_nm, sayR_nm], hrc, flat_nil' hfl⟩, HB4.out.trans (HB6.out.mono HB4.out.size)⟩
    · have HC : Hid (change g true xs true ys = sayR 5 g (dif xs ys) none 0 ++ sayR 6 g (dif ys xs) none 0) := Lib.hid (said_two 5 6 g rfl rfl _ _)
      go_wp2_with fail
      refine (rSaid 5 g none 0 0 [] w4.heap.size a4 _ c4 (dif xs ys) w4 rfl (by omega) (by omega) (World.ownsRow_nil _ _ _ _) (Nat.le_refl _)).mono ?_
      rintro e w5 ⟨a5, n5, c5, rfl, hown, hn5, hb⟩
      rw [List.nil_append] at hown
      have HO5 := Lib.hid hown
      have HB5 := Lib.hid hb
      have hn5' : n5 ≤ 1 := by rw [hn5]; unfold sayR; split <;> simp
      clear hown hb hn5 cb0
      go_wp2_with fail
      refine (rSaid 6 g a5 n5 c5 _ w4.heap.size a3 _ c3 (dif ys xs) w5 rfl (by omega) (by omega) HO5.out HB5.out.size).mono ?_
      rintro e w6 ⟨a6, n6, c6, rfl, hown, -, hb⟩
      have HO6 := Lib.hid hown
      have HB6 := Lib.hid (HB5.out.trans hb)
      clear hown hb
      go_wp2_with fail
      go_ret
      rw [HC.out]
      have hle : (sayR 5 g (dif xs ys) a4 c4 ++ sayR 6 g (dif ys xs) a3 c3).length = n6 := by have := HO6.out.1; rw [rv_len] at this; omega
      have hrc := own_rcs HO6.out hle (fun r hr => by
        rcases List.mem_append.1 hr with h | h <;> (unfold sayR at h; split at h)
        · cases h
        · simp at h; subst h; exact ⟨HA4.out.below HB6.out, HF4.out⟩
        · cases h
        · simp at h; subst h; exact ⟨HA3.out.below HB6.out, HF3.out⟩)
      obtain ⟨a', c', e', hfl⟩ := own_sl HO6.out
      cases e'
      exact ⟨⟨a6, c6, _, by rw [hle]; rfl, by rw [List.map_append, List.map_append, sayR_nm, sayR_nm, sayR_nm, sayR_nm], hrc, flat_nil' hfl⟩, HB4.out.trans (HB6.out.mono HB4.out.size)⟩
  · go_enter Try.func27, Try.ntmps27
    cases e1 <;> cases e2
    · exact absurd rfl he
    · go_wp2_with fail
      go_ret
      have hr := recs_new1 (r := ⟨4, g, ys, b, cb⟩) ⟨H2.out, HNB.out⟩
      simp only [Rc.sl, HY.out] at hr
      refine ⟨⟨_, 1, [⟨4, g, ys, b, cb⟩], rfl, ?_, by simpa using hr, fun e => by cases e⟩, HBW.out.alloc HBW.out.size _⟩
      simp [change, chg, said, keep, Rc.nm]
    · go_wp2_with fail
      go_ret
      have hr := recs_new1 (r := ⟨3, g, ys, b, cb⟩) ⟨H2.out, HNB.out⟩
      simp only [Rc.sl, HY.out] at hr
      refine ⟨⟨_, 1, [⟨3, g, ys, b, cb⟩], rfl, ?_, by simpa using hr, fun e => by cases e⟩, HBW.out.alloc HBW.out.size _⟩
      simp [change, chg, said, keep, Rc.nm]
    · exact absurd rfl he
end Go.Proofs.Ytmcbbccbonadjaa
/- The document's Drop, of a host. -/
namespace Go.Proofs.Ytmcbbccbonadjaa
set_option linter.unusedVariables false
open Go.RowKit

def dr (id : Int) (ss : List Sk) : List Sk := ss.filter fun s => s.id != id
def gOf (id : Int) (ss : List Sk) : Int := ss.foldl (fun g s => if s.id = id then s.g else g) 0
theorem dr_yes {id : Int} {l : List Sk} {s : Sk} (h : s.id = id) : dr id (l ++ [s]) = dr id l := by simp [dr, h]
theorem dr_no {id : Int} {l : List Sk} {s : Sk} (h : s.id ≠ id) : dr id (l ++ [s]) = dr id l ++ [s] := by simp [dr, h]
theorem gOf_yes {id : Int} {l : List Sk} {s : Sk} (h : s.id = id) : gOf id (l ++ [s]) = s.g := by simp [gOf, h]
theorem gOf_no {id : Int} {l : List Sk} {s : Sk} (h : s.id ≠ id) : gOf id (l ++ [s]) = gOf id l := by simp [gOf, h]
theorem gOf_all {id g : Int} : ∀ (ss : List Sk) (acc : Int), (∀ t ∈ ss, t.id = id → t.g = g) → ss.foldl (fun g s => if s.id = id then s.g else g) acc = if ss.any (fun t => t.id == id) then g else acc
  | [], _, _ => by simp
  | x :: r, acc, h => by
    rw [List.foldl_cons, gOf_all r _ (fun t ht => h t (List.mem_cons_of_mem _ ht)), List.any_cons]
    by_cases hx : x.id = id
    · have h1 := h x (List.mem_cons_self ..) hx
      have e : (x.id == id) = true := by simpa using hx
      rw [if_pos hx, h1, e]; simp
    · have e : (x.id == id) = false := by simpa using hx
      rw [if_neg hx, e]; simp
theorem gOf_none {id : Int} {ss : List Sk} (h : ∀ t ∈ ss, t.id ≠ id) : gOf id ss = 0 := by
  unfold gOf
  rw [gOf_all (g := 0) ss 0 (fun t ht e => absurd e (h t ht))]; simp
theorem gOf_some {id : Int} {ss : List Sk} (hr : Ris ss) {t : Sk} (ht : t ∈ ss) (h : t.id = id) : gOf id ss = t.g := by
  unfold gOf
  rw [gOf_all (g := t.g) ss 0 (fun u hu e => by rw [ris_inj hr hu ht (by omega)])]
  rw [if_pos (List.any_eq_true.2 ⟨t, ht, by simpa using h⟩)]
theorem dr_ris {id : Int} : ∀ {ss : List Sk}, Ris ss → dr id ss = dropL ss id
  | [], _ => rfl
  | x :: r, hr => by
    unfold Ris at hr
    rw [List.pairwise_cons] at hr
    have ih := dr_ris (id := id) (ss := r) hr.2
    unfold dr dropL lt' gt' at *
    by_cases h1 : x.id < id
    · have a1 : (x.id != id) = true := by simp; omega
      have a3 : ¬ id < x.id := by omega
      simp only [List.filter_cons, a1, h1, a3, decide_true, decide_false, if_true, ih, List.cons_append]
      simp
    · have hlt : r.filter (fun s => decide (s.id < id)) = [] := List.filter_eq_nil_iff.2 fun y hy => by have := hr.1 y hy; simp; omega
      by_cases h2 : x.id = id
      · have a1 : (x.id != id) = false := by simp; omega
        have a3 : ¬ id < x.id := by omega
        simp only [List.filter_cons, a1, h1, a3, decide_false, ih, hlt, List.nil_append]
        simp
      · have a1 : (x.id != id) = true := by simp; omega
        have a3 : id < x.id := by omega
        rw [hlt] at ih
        simp only [List.filter_cons, a1, h1, a3, decide_true, decide_false, if_true, ih, hlt, List.nil_append]
        simp
theorem dropL_fewI {ss : List Sk} {id : Int} (hr : Ris ss) (h : FewI ss) : FewI (dropL ss id) := by
  rw [← dr_ris hr]
  exact ⟨Nat.le_trans (List.length_filter_le _ _) h.1, fun s hs => h.2 s (List.mem_filter.1 hs).1⟩
theorem wants_incI {ss : List Sk} (h : FewI ss) (g : Int) : Inc (wants g ss).2 := flt_inc fun f hf => by
  obtain ⟨s, hs, rfl⟩ := List.mem_map.1 hf
  exact (h.2 s (List.mem_filter.1 hs).1).2
def rdV (N B13 : Nat) (a : Option Addr) (n c : Nat) (g : Int) (a24 : Option Addr) (n24 c24 : Nat) (p1 p2 : Bool) (l1 l2 : List Int) : Nat → Value → List Value → World → Prop
  | 0, v, _, _ => v = .agg #[.slice a24 n24 c24]
  | 1, v, _, _ => v = .int .u32 g
  | 2, v, _, _ => v = .agg #[.slice a n c]
  | 3, v, _, _ => v = .int .u32 g
  | 4, v, _, w => ∃ (a29 : Option Addr) (c29 : Nat), v = .agg #[.bool p1, .slice a29 l1.length c29] ∧ As w a29 l1
  | 5, v, _, _ => v = .agg #[.slice a24 n24 c24]
  | 6, v, _, _ => v = .int .u32 g
  | 7, v, _, w => ∃ (a32 : Option Addr) (c32 : Nat), v = .agg #[.bool p2, .slice a32 l2.length c32] ∧ As w a32 l2 ∧ (a32 = none → c32 = 0)
  | 8, v, _, w => ∃ (b33 : Option Addr) (d33 : Nat) (rs33 : List Rc), v = .slice b33 (List.length rs33) d33 ∧ rs33.map Rc.nm = (change g p1 l1 p2 l2).map Rc.nm ∧ Rcs w b33 rs33 ∧ (b33 = none → d33 = 0)
  | 9, v, us, w => w.heap[N + 1]? = some (.cells #[.slice a24 n24 c24] 36 (0, 0))
  | 10, v, us, w => us = [v]
  | 11, v, _, _ => v = .int .i64 0
  | _, _, _, _ => True
def rdD : Nat → List Nat
  | 4 => [2, 3]
  | 7 => [5, 6]
  | 8 => [1, 4, 7]
  | 9 => [0]
  | 10 => [8]
  | _ => []
theorem rd_st (N B13 : Nat) (a : Option Addr) (n c : Nat) (g : Int) (a24 : Option Addr) (n24 c24 : Nat) (p1 p2 : Bool) (l1 l2 : List Int) {i : Nat} {v : Value} {us : List Value} {w w' : World} {j : Nat} (hne : i ≠ j) (hr : hR 0 9 j w w') (hv : rdV N B13 a n c g a24 n24 c24 p1 p2 l1 l2 i v us w) : rdV N B13 a n c g a24 n24 c24 p1 p2 l1 l2 i v us w' := by
  unfold rdV at hv ⊢
  split at hv
  all_goals first
    | exact hv
    | (obtain ⟨a29, c29, e, h29⟩ := hv; exact ⟨a29, c29, e, h29.tm hr.2.1.tm⟩)
    | (obtain ⟨a32, c32, e, h32, n32⟩ := hv; exact ⟨a32, c32, e, h32.tm hr.2.1.tm, n32⟩)
    | (obtain ⟨b33, d33, rs33, e, m33, k33, n33⟩ := hv; exact ⟨b33, d33, rs33, e, m33, k33.tm hr.2.1.tm, n33⟩)
    | (rcases hr.1 with e | e; exact absurd e.symm hne; exact (e.block _ (Array.getElem?_eq_some_iff.1 hv).1).trans hv)
theorem FewI.lens {ss : List Sk} (h : FewI ss) (g : Int) : (wants g ss).2.length ≤ 100000 := by
  have hm : ∀ f ∈ ofG g ss, f.srcs.length ≤ 400 := fun f hf => by
    obtain ⟨s, hs, rfl⟩ := List.mem_map.1 hf
    have := (h.2 s (List.mem_filter.1 hs).1).1
    omega
  have h1 := wo_len hm
  have h2 := Nat.le_trans (ofG_len g ss) h.1
  have h3 := mk_len (wo (ofG g ss))
  show (flt (ofG g ss)).2.length ≤ _
  generalize ofG g ss = fs at *
  cases hw : withs fs with
  | nil => rw [flt_nil hw]; show (mk (wo fs)).length ≤ _; omega
  | cons f r =>
    rw [flt_cons hw]
    have h4 := dif_len (r.foldl (fun l g => int l g.srcs) f.srcs) (mk (wo fs))
    have h5 := fold_len r f.srcs
    have h6 := hm f (withs_mem.1 (show f ∈ withs fs by rw [hw]; exact List.mem_cons_self ..)).1
    show (dif _ _).length ≤ _
    omega
/-- A host, what is said, and how it went (as the document has it). -/
def OutQ (w : World) (e : Ending) (w' : World) (hs : List Sk) (R : List Rc) (er : Int) : Prop :=
  (∃ a c ss' b d rs, e = .returned (.tuple #[.agg #[.slice a (List.length ss') c], .slice b (List.length rs) d, .int .i64 er]) ∧ (ss'.map Sk.nm = hs.map Sk.nm ∧ Sks w' a ss') ∧ rs.map Rc.nm = R.map Rc.nm ∧ Rcs w' b rs) ∧ Below w.heap.size w w'
set_option maxRecDepth 100000 in
set_option maxHeartbeats 16000000 in
theorem rDrop (a : Option Addr) (n c : Nat) (ss : List Sk) (id : Int) (w : World) (hx : ss.length = n) (hnc : n ≤ c) (hni : a = none → c = 0) (hri : Ris ss) (hg0 : ∀ s ∈ ss, s.g ≠ 0) (hfew : FewI ss) (hS : Sks w a ss) :
    Calls Try.prog 22 #[.agg #[.slice a n c], .int .i64 id] w fun e w' => OutQ w e w' (dropH ss id) (dropS ss id) (dropE ss id) := by
  obtain ⟨i0, hi, hz0, hz1, hz2⟩ := info_parts infoK
  have hn40 : n ≤ 40 := by rw [← hx]; exact hfew.1
  have HX := Lib.hid hx
  have HNC := Lib.hid hnc
  have HNI := Lib.hid hni
  have HRI := Lib.hid hri
  have HG0 := Lib.hid hg0
  have HFI := Lib.hid hfew
  have hb2 := bel2 w (.cells #[.slice a n c] 36) (.cells #[.slice none 0 0] 36)
  have p0 := host_new w (.slice a n c)
  have hbx := Go.Deep.blk_alloc_new (w.alloc (.cells #[.slice a n c] 36)) (.cells #[.slice none 0 0] 36)
  rw [World.size_alloc] at hbx
  have CH := Lib.hid ((((bel1 (w.alloc (.cells #[.slice a n c] 36)) (.cells #[.slice none 0 0] 36)).cell (cell_lt p0)).trans p0))
  have HBX := Lib.hid hbx
  have HW1 := Lib.hid hb2
  have HSK := Lib.hid (hS.below hb2)
  have HS1 : Hid (((w.alloc (.cells #[.slice a n c] 36)).alloc (.cells #[.slice none 0 0] 36)).heap.size = w.heap.size + 2) := Lib.hid (by simp)
  clear hx hnc hni hri hg0 hfew hS hb2 p0 hbx
  go_enter Try.func22, Try.ntmps22
  have c0 := CH.out
  go_wp2
  generalize (w.alloc (.cells #[.slice a n c] 36)).alloc (.cells #[.slice none 0 0] 36) = w1 at *
  clear c0
  go_loopw [7, 8, 9] (fun v7 v8 v9 wr => ∃ (k : Nat) (a7 : Option Addr) (c7 : Nat), v7 = .slice a7 (dr id (ss.take k)).length c7 ∧ v8 = .int .u32 (gOf id (ss.take k)) ∧ v9 = .int .i64 (k : Int) ∧ k ≤ n ∧ wr.ownsRow (w.heap.size + 2) 38 4 (.slice a7 (dr id (ss.take k)).length c7) (dr id (ss.take k)).length (sv (dr id (ss.take k))) ∧ Below w1.heap.size w1 wr) (fun _ _ v _ => n - (intOf v).toNat)
  case atStart => exact ⟨0, none, 0, by simp [dr], by simp [gOf], rfl, by omega, by simpa [dr, sv] using World.ownsRow_nil _ _ _ _, Below.refl _ _⟩
  case round =>
    obtain ⟨k, a7, c7, rfl, rfl, rfl, hk, ho, hB⟩ := hrel
    have HO := Lib.hid ho
    have HB := Lib.hid hB
    have c0 := (hB.cell (cell_lt CH.out)).trans CH.out
    have hNs : w.heap.size + 2 ≤ wr.heap.size := by have := hB.size; have := HS1.out; omega
    have hol : (dr id (ss.take k)).length ≤ 400 := Nat.le_trans (List.length_filter_le _ _) (by rw [List.length_take]; omega)
    clear ho hB
    by_cases hlt : k < n
    · obtain ⟨b, off, rfl, hc⟩ := HSK.out.at (k := k) (by rw [HX.out]; exact hlt)
      obtain ⟨⟨sid, gr, ⟨ex, srcs, fa, fc⟩⟩, hfk⟩ : ∃ s, ss[k]? = some s := ⟨_, List.getElem?_eq_getElem (by rw [HX.out]; exact hlt)⟩
      obtain ⟨⟨d0, d1, d2, d3⟩, hfo, -⟩ := (hc k _ hfk).below HB.out
      simp only [Flt.sl] at d0 d1 d2 d3 hfo
      have d4 : wr.cell? ⟨b, off + k * 4 + 2 + 1, none⟩ = some (.slice fa srcs.length fc) := d3
      have HFK := Lib.hid hfk
      have HC0 := Lib.hid c0
      have hkz : (k : Int) < (n : Int) := by omega
      clear hc hfk hfo
      by_cases hg : sid = id
      · have hg1 : (sid == id) = true := by simpa using hg
        have HG := Lib.hid hg
        clear hg
        go_wp2
        go_roundw
        case rel =>
          have e : dr id (ss.take (k + 1)) = dr id (ss.take k) := by rw [takeS HFK.out]; exact dr_yes HG.out
          have e2 : gOf id (ss.take (k + 1)) = gr := by rw [takeS HFK.out]; exact gOf_yes HG.out
          exact ⟨k + 1, a7, c7, by rw [e], by rw [e2], by go_num, by omega, by rw [e]; exact HO.out, HB.out⟩
        case measure => simp [intOf]; omega
      · have hg1 : (sid == id) = false := by simpa using hg
        have HG := Lib.hid hg
        have hn1 := news_new wr [.int .i64 sid, .int .u32 gr, .bool ex, .slice fa srcs.length fc] 38
        have HN1 := Lib.hid hn1
        clear hn1 hg
        go_wp2_with ((refine wpList_app_cell rfl 34 38 i0 _ 4 48 Try.underlying34 hi hz0 hz1 hz2 rfl (by decide) (by omega) (.tmp 32) (.tmp 38) rfl (w.heap.size + 2) _ (dr id (ss.take k)).length (sv (dr id (ss.take k))) rfl (HO.out.alloc _) ⟨wr.heap.size, 0, none⟩ 1 [.int .i64 sid, .int .u32 gr, .bool ex, .slice fa srcs.length fc] rfl rfl HN1.out (by simp [Value.oneCell']) (by omega) (by simp; omega) ?_; intro a' cap' w' hown hg))
        go_roundw
        case rel =>
          have e : dr id (ss.take (k + 1)) = dr id (ss.take k) ++ [⟨sid, gr, ⟨ex, srcs, fa, fc⟩⟩] := by rw [takeS HFK.out]; exact dr_no HG.out
          have e2 : gOf id (ss.take (k + 1)) = gOf id (ss.take k) := by rw [takeS HFK.out]; exact gOf_no HG.out
          have hgb := grown_below (HO.out.alloc (.cells #[.int .i64 sid, .int .u32 gr, .bool ex, .slice fa srcs.length fc] 38)) hg.out (by simp; omega)
          have hsz1 := HS1.out
          refine ⟨k + 1, a', cap', by rw [e, List.length_append]; rfl, by rw [e2], by go_num, by omega, ?_, HB.out.trans (((Below.refl _ wr).alloc (by omega) _).trans (hgb.mono (by omega)))⟩
          rw [e, List.length_append, sv_append]; exact hown.out
        case measure => simp [intOf]; omega
    · obtain rfl : n = k := by omega
      have htk : ss.take n = ss := List.take_of_length_le (by rw [HX.out]; exact Nat.le_refl _)
      have HO' := HO.out
      rw [htk] at HO' hol ⊢
      rw [dr_ris HRI.out] at HO' hol ⊢
      have HO2 := Lib.hid HO'
      clear HO HO' htk
      have HBW := Lib.hid (HW1.out.trans (HB.out.mono HW1.out.size))
      by_cases hex : ∃ t ∈ ss, t.id = id
      · obtain ⟨u, hu, hid⟩ := hex
        have HDY := Lib.hid (drop_yes HRI.out hu hid)
        have hge := gOf_some HRI.out hu hid
        have hg00 := HG0.out u hu
        obtain ⟨g, hg⟩ : ∃ g, u.g = g := ⟨_, rfl⟩
        rw [hg] at HDY hge hg00
        rw [hge]
        have hgz : (g == 0) = false := beq_eq_false_iff_ne.2 hg00
        clear hge hg00 hg hu hid
        obtain ⟨ss24, h24⟩ : ∃ l, dropL ss id = l := ⟨_, rfl⟩
        have hmem : ∀ s ∈ dropL ss id, s ∈ ss := fun s hs => by rw [← dr_ris HRI.out] at hs; exact (List.mem_filter.1 hs).1
        have HF24 := Lib.hid (dropL_fewI (id := id) HRI.out HFI.out)
        rw [h24] at HO2 hol HF24 HDY hmem ⊢
        have HM := Lib.hid hmem
        clear h24 hmem
        obtain ⟨n24, hn24⟩ : ∃ l, ss24.length = l := ⟨_, rfl⟩
        rw [hn24] at HO2 hol ⊢
        have HN24 := Lib.hid hn24
        have HK := Lib.hid (own_sks HO2.out hn24 (fun s hs => ⟨(HSK.out.mem (HM.out s hs)).1.below HB.out, (HSK.out.mem (HM.out s hs)).2⟩))
        clear hn24
        go_wp2_with fail
        have hb4 := bel1 wr (.cells #[.slice a7 n24 c7] 36)
        have C13 := Lib.hid (host_new wr (.slice a7 n24 c7))
        have H24 := Lib.hid (HK.out.below hb4)
        have CH2 := Lib.hid ((hb4.cell (cell_lt c0)).trans c0)
        have HBX2 := Lib.hid ((hb4.block _ (by omega)).trans ((HB.out.block _ (Array.getElem?_eq_some_iff.1 HBX.out).1).trans HBX.out))
        have HW2 := Lib.hid (HBW.out.trans (hb4.mono HBW.out.size))
        have HSK2 := Lib.hid ((HSK.out.below HB.out).below hb4)
        have HBB : Hid (w.heap.size + 2 ≤ wr.heap.size) := Lib.hid hNs
        clear hb4 c0 HO2 HK HBW CH HBX HSK HW1
        obtain ⟨⟨p1, l1⟩, hw1⟩ : ∃ p, wants g ss = p := ⟨_, rfl⟩
        obtain ⟨⟨p2, l2⟩, hw2⟩ : ∃ p, wants g ss24 = p := ⟨_, rfl⟩
        have hfl1 := (FewI.lens HFI.out g)
        have hfl2 := (FewI.lens HF24.out g)
        have hi1 := wants_incI HFI.out g
        have hi2 := wants_incI HF24.out g
        rw [hw1] at hfl1 hi1
        rw [hw2] at hfl2 hi2
        simp only at hfl1 hi1 hfl2 hi2
        have HI1 := Lib.hid hi1
        have HI2 := Lib.hid hi2
        have HW1 := Lib.hid hw1
        have HWB := Lib.hid hw2
        clear hw1 hw2 hi1 hi2
        obtain ⟨B13, hB13⟩ : ∃ B, wr.heap.size = B := ⟨_, rfl⟩
        rw [hB13] at C13 HBB hNs ⊢
        clear hB13
        generalize a7 = a24 at *
        generalize c7 = c24 at *
        generalize wr.alloc (.cells #[.slice a24 n24 c24] 36) = w2 at *
        refine wp_region_each3 (rdV w.heap.size B13 a n c g a24 n24 c24 p1 p2 l1 l2) (fun W => But1 (w.heap.size + 1) w2 W ∧ HBx W (w.heap.size + 1)) (hR 0 9) rdD [45, 46, 47, 48, 49, 50, 51, 52, 53, 5, 6] (by kernel_rfl) (by kernel_rfl) (by kernel_rfl) ⟨But1.drewN (But1.refl _ w2) 1, (hbx_of HBX2.out)⟩
          (fun i j oi oj v us A B hoi hoj hij hw hSA hr hv => rd_st _ _ _ _ _ _ _ _ _ _ _ _ _ hij hr hv) ?hgd
          ⟨?_, ?_, ?_, ?_, ?_, ?_, ?_, ?_, ?_, ?_, ?_, ?_, trivial⟩ ?hend
        case hgd =>
          intro i o g b hoi hog v us w hv
          have hi : i < 12 := (Array.getElem?_eq_some_iff.1 hoi).1
          have hc : i = 0 ∨ i = 1 ∨ i = 2 ∨ i = 3 ∨ i = 4 ∨ i = 5 ∨ i = 6 ∨ i = 7 ∨ i = 8 ∨ i = 9 ∨ i = 10 ∨ i = 11 := by omega
          rcases hc with rfl | rfl | rfl | rfl | rfl | rfl | rfl | rfl | rfl | rfl | rfl | rfl
          · cases hoi; cases hog
          · cases hoi; cases hog
          · cases hoi; cases hog
          · cases hoi; cases hog
          · cases hoi; cases hog
          · cases hoi; cases hog
          · cases hoi; cases hog
          · cases hoi; cases hog
          · cases hoi; cases hog
          · cases hoi; cases hog
          · cases hoi; cases hog
          · cases hoi; cases hog
        case refine_1 =>
          intro a' w9 hS h0 hd
          have e10 : a'.tmps[10]?.getD undef = .pointer (some ⟨B13, 0, none⟩) := evG (h0 10 (by kernel_rfl))
          have c0 := (hS.1.cell (cell_lt C13.out) (by show B13 ≠ _; have := HBB.out; omega)).trans C13.out
          refine Does2.value (.agg #[.slice a24 n24 c24]) (w' := w9) ?_ ⟨rfl, hS, hR_refl _ _⟩
          clear hS h0 hd
          go_simp
        case refine_2 =>
          intro a' w9 hS h0 hd
          have e8 : a'.tmps[8]?.getD undef = .int .u32 g := evG (h0 8 (by kernel_rfl))
          refine Does2.value (.int .u32 g) (w' := w9) ?_ ⟨rfl, hS, hR_refl _ _⟩
          clear hS h0 hd
          go_simp
        case refine_3 =>
          intro a' w9 hS h0 hd
          have e2 : a'.tmps[2]?.getD undef = .pointer (some ⟨w.heap.size, 0, none⟩) := evG (h0 2 (by kernel_rfl))
          have c0 := (hS.1.cell (cell_lt CH2.out) (by show w.heap.size ≠ _; omega)).trans CH2.out
          refine Does2.value (.agg #[.slice a n c]) (w' := w9) ?_ ⟨rfl, hS, hR_refl _ _⟩
          clear hS h0 hd
          go_simp
        case refine_4 =>
          intro a' w9 hS h0 hd
          have e8 : a'.tmps[8]?.getD undef = .int .u32 g := evG (h0 8 (by kernel_rfl))
          refine Does2.value (.int .u32 g) (w' := w9) ?_ ⟨rfl, hS, hR_refl _ _⟩
          clear hS h0 hd
          go_simp
        case refine_5 =>
          intro a' w9 hS h0 hd
          have e47 : a'.tmps[47]?.getD undef = .agg #[.slice a n c] := evG (hd 2 List.mem_cons_self)
          have e48 : a'.tmps[48]?.getD undef = .int .u32 g := evG (hd 3 (List.mem_cons_of_mem _ List.mem_cons_self))
          refine Does2.call 33 #[.agg #[.slice a n c], .int .u32 g] (w' := w9) ?_ ((rWantsH a n c ss g w9 HX.out HFI.out (HSK2.out.tm (hbut HBX2.out hS.1))).mono ?_)
          · clear hS h0 hd
            go_simp
          · rw [HW1.out]
            rintro e w8 ⟨⟨a8, c8, rfl, hA8, hf8⟩, hb8⟩
            exact ⟨_, rfl, ⟨a8, c8, rfl, hA8⟩, ⟨hS.1.trans (But1.of_below hb8), hboxB hb8 hS.2⟩, hR_below hb8⟩
        case refine_6 =>
          intro a' w9 hS h0 hd
          have e10 : a'.tmps[10]?.getD undef = .pointer (some ⟨B13, 0, none⟩) := evG (h0 10 (by kernel_rfl))
          have c0 := (hS.1.cell (cell_lt C13.out) (by show B13 ≠ _; have := HBB.out; omega)).trans C13.out
          refine Does2.value (.agg #[.slice a24 n24 c24]) (w' := w9) ?_ ⟨rfl, hS, hR_refl _ _⟩
          clear hS h0 hd
          go_simp
        case refine_7 =>
          intro a' w9 hS h0 hd
          have e8 : a'.tmps[8]?.getD undef = .int .u32 g := evG (h0 8 (by kernel_rfl))
          refine Does2.value (.int .u32 g) (w' := w9) ?_ ⟨rfl, hS, hR_refl _ _⟩
          clear hS h0 hd
          go_simp
        case refine_8 =>
          intro a' w9 hS h0 hd
          have e50 : a'.tmps[50]?.getD undef = .agg #[.slice a24 n24 c24] := evG (hd 5 List.mem_cons_self)
          have e51 : a'.tmps[51]?.getD undef = .int .u32 g := evG (hd 6 (List.mem_cons_of_mem _ List.mem_cons_self))
          refine Does2.call 33 #[.agg #[.slice a24 n24 c24], .int .u32 g] (w' := w9) ?_ ((rWantsH a24 n24 c24 ss24 g w9 HN24.out HF24.out (H24.out.tm (hbut HBX2.out hS.1))).mono ?_)
          · clear hS h0 hd
            go_simp
          · rw [HWB.out]
            rintro e w8 ⟨⟨a8, c8, rfl, hA8, hf8⟩, hb8⟩
            exact ⟨_, rfl, ⟨a8, c8, rfl, hA8, flat_nil' hf8⟩, ⟨hS.1.trans (But1.of_below hb8), hboxB hb8 hS.2⟩, hR_below hb8⟩
        case refine_9 =>
          intro a' w9 hS h0 hd
          have e46 : a'.tmps[46]?.getD undef = .int .u32 g := evG (hd 1 List.mem_cons_self)
          obtain ⟨a29, c29, e49, h29⟩ := hd 4 (List.mem_cons_of_mem _ List.mem_cons_self)
          replace e49 := evG e49
          obtain ⟨a32, c32, e52, h32, n32⟩ := hd 7 (List.mem_cons_of_mem _ (List.mem_cons_of_mem _ List.mem_cons_self))
          replace e52 := evG e52
          refine Does2.call 27 #[.int .u32 g, .agg #[.bool p1, .slice a29 l1.length c29], .agg #[.bool p2, .slice a32 l2.length c32]] (w' := w9) ?_ ((rChange g p1 p2 a29 a32 _ _ c29 c32 l1 l2 w9 rfl rfl (by omega) (by omega) HI1.out HI2.out h29 h32 n32).mono ?_)
          · clear hS h0 hd h29 h32
            go_simp
          · rintro e w8 ⟨⟨a8, c8, rs8, rfl, m8, k8, n8⟩, hb8⟩
            exact ⟨_, rfl, ⟨a8, c8, rs8, rfl, m8, k8, n8⟩, ⟨hS.1.trans (But1.of_below hb8), hboxB hb8 hS.2⟩, hR_below hb8⟩
        case refine_10 =>
          intro a' w9 hS h0 hd
          have e4 : a'.tmps[4]?.getD undef = .pointer (some ⟨w.heap.size + 1, 0, none⟩) := evG (h0 4 (by kernel_rfl))
          have e45 : a'.tmps[45]?.getD undef = .agg #[.slice a24 n24 c24] := evG (hd 0 List.mem_cons_self)
          obtain ⟨x, y, z, hbx⟩ := hS.2
          have hc := HBx.cell hbx
          have hf := HBx.froz hbx
          refine Does2.skip (w' := w9.setCell ⟨w.heap.size + 1, 0, none⟩ (.slice a24 n24 c24)) ?_ ⟨HBx.set hbx _, ⟨hS.1.trans (But1.set _ _ _ _), ⟨_, _, _, HBx.set hbx _⟩⟩, hR_set hbx ⟨x, y, z, hbx⟩ _ _ _⟩
          clear hS h0 hd hbx
          go_simp
        case refine_11 =>
          intro a' w9 hS h0 hd
          obtain ⟨b33, d33, rs33, e53, m33, k33, n33⟩ := hd 8 List.mem_cons_self
          replace e53 := evG e53
          have q5 : a'.eval (.tmp 53) = .slice b33 (List.length rs33) d33 := by simp [Act.eval, e53]
          refine Does2.value (.slice b33 (List.length rs33) d33) (w' := w9) ?_ ⟨?_, hS, hR_refl _ _⟩
          · clear hS h0 hd k33 q5
            go_simp
          · show [a'.eval (.tmp 53)] = [Value.slice b33 (List.length rs33) d33]
            rw [q5]
        case refine_12 =>
          intro a' w9 hS h0 hd
          refine Does2.value (.int .i64 0) (w' := w9) ?_ ⟨rfl, hS, hR_refl _ _⟩
          clear hS h0 hd
          go_simp
        case hend =>
          intro f2 w3 hS hv
          obtain ⟨b33, d33, rs33, v33, m33, k33, n33⟩ := hv 8 (by decide)
          replace v33 : f2 53 = .slice b33 (List.length rs33) d33 := v33
          have v11 : [f2 53] = [f2 5] := hv 10 (by decide)
          rw [v33] at v11
          replace v11 : f2 5 = .slice b33 (List.length rs33) d33 := by simpa using v11.symm
          have v12 := hv 11 (by decide)
          replace v12 : f2 6 = .int .i64 0 := v12
          have h9 := hv 9 (by decide)
          replace h9 : w3.heap[w.heap.size + 1]? = some (.cells #[.slice a24 n24 c24] 36 (0, 0)) := h9
          simp only [putAll, Act.put, List.setIfInBounds_toArray, List.set_cons_zero, List.set_cons_succ, v11, v12]
          have HL := Lib.hid (load_host h9)
          have M33 := Lib.hid m33
          have K33 := Lib.hid k33
          have N33 := Lib.hid n33
          have HS3 := Lib.hid hS.1
          clear hS hv v33 v11 v12 h9 m33 k33 n33
          go_wp2_with fail
          refine ret_cell3 (p := 4) (u := 5) (v := 6) rfl rfl rfl HL.out ?_
          rw [HDY.out.1, HDY.out.2.1, HDY.out.2.2, HW1.out, HWB.out]
          have hn24 := HN24.out
          subst hn24
          exact ⟨⟨a24, c24, ss24, b33, d33, rs33, rfl, ⟨rfl, H24.out.tm (hbut HBX2.out HS3.out)⟩, M33.out, K33.out⟩, HW2.out.trans (HS3.out.below (by omega) (by have := HW2.out.size; omega))⟩
      · have hno : ∀ t ∈ ss, t.id ≠ id := fun t ht e => hex ⟨t, ht, e⟩
        have HDN := Lib.hid (drop_no hno)
        rw [gOf_none hno]
        clear hno hex
        obtain ⟨⟨r0, r1⟩, hl2, htm, hb9, -⟩ := fin_host ((HB.out.block _ (Array.getElem?_eq_some_iff.1 HBX.out).1).trans HBX.out) (show Below (w.heap.size + 1) w1 wr from HB.out.mono (by have := HS1.out; omega)) a n c
        have HL2 := Lib.hid hl2
        have HTM := Lib.hid htm
        have HB9 := Lib.hid (HW1.out.trans (hb9.mono (by omega)))
        clear hl2 htm hb9
        go_wp2_with fail
        refine ret_cell3 (p := 4) (u := 5) (v := 6) rfl rfl rfl HL2.out ?_
        rw [HDN.out.1, HDN.out.2.1, HDN.out.2.2]
        obtain rfl := HX.out
        exact ⟨⟨a, c, ss, none, 0, [], rfl, ⟨rfl, (HSK.out.below HB.out).tm HTM.out⟩, rfl, Rcs.nil _ _⟩, HB9.out⟩
end Go.Proofs.Ytmcbbccbonadjaa
/- The document's Put, of a host. -/
namespace Go.Proofs.Ytmcbbccbonadjaa
set_option linter.unusedVariables false
open Go.RowKit

/-- Is the place of an id behind these? And the row so far. -/
def pt (id : Int) (ss : List Sk) : Bool := ss.any fun s => decide (id ≤ s.id)
def pl (s : Sk) (ss : List Sk) : List Sk := lt' s.id ss ++ if pt s.id ss then s :: gt' s.id ss else []
theorem pt_snoc {id : Int} {l : List Sk} {x : Sk} : pt id (l ++ [x]) = (pt id l || decide (id ≤ x.id)) := by simp [pt]
theorem pt_no {id : Int} {l : List Sk} (h : pt id l = false) : lt' id l = l ∧ gt' id l = [] := by
  unfold pt at h
  rw [List.any_eq_false] at h
  refine ⟨List.filter_eq_self.2 fun x hx => ?_, List.filter_eq_nil_iff.2 fun x hx => ?_⟩
  · have := h x hx; simp at this ⊢; omega
  · have := h x hx; simp at this ⊢; omega
theorem lt_snoc {id : Int} {l : List Sk} {x : Sk} : lt' id (l ++ [x]) = lt' id l ++ if x.id < id then [x] else [] := by
  unfold lt'; rw [List.filter_append]; by_cases h : x.id < id <;> simp [h]
theorem gt_snoc {id : Int} {l : List Sk} {x : Sk} : gt' id (l ++ [x]) = gt' id l ++ if id < x.id then [x] else [] := by
  unfold gt'; rw [List.filter_append]; by_cases h : id < x.id <;> simp [h]
theorem pl_lt {s x : Sk} {l : List Sk} (hp : pt s.id l = false) (h : x.id < s.id) : pl s (l ++ [x]) = pl s l ++ [x] ∧ pt s.id (l ++ [x]) = false := by
  have h2 : pt s.id (l ++ [x]) = false := by rw [pt_snoc, hp]; simp; omega
  refine ⟨?_, h2⟩
  unfold pl
  rw [h2, hp, lt_snoc, if_pos h]; simp
theorem pl_eq {s x : Sk} {l : List Sk} (hp : pt s.id l = false) (h : x.id = s.id) : pl s (l ++ [x]) = pl s l ++ [s] ∧ pt s.id (l ++ [x]) = true := by
  have h2 : pt s.id (l ++ [x]) = true := by rw [pt_snoc, hp]; simp; omega
  refine ⟨?_, h2⟩
  unfold pl
  have n1 : ¬ x.id < s.id := by omega
  have n2 : ¬ s.id < x.id := by omega
  rw [h2, hp, lt_snoc, gt_snoc, (pt_no hp).2]; simp [n1, n2]
theorem pl_gt {s x : Sk} {l : List Sk} (hp : pt s.id l = false) (h : s.id < x.id) : pl s (l ++ [x]) = pl s l ++ [s] ++ [x] ∧ pt s.id (l ++ [x]) = true := by
  have h2 : pt s.id (l ++ [x]) = true := by rw [pt_snoc, hp]; simp; omega
  refine ⟨?_, h2⟩
  unfold pl
  rw [h2, hp, lt_snoc, gt_snoc, (pt_no hp).2, if_neg (by omega), if_pos h]; simp
theorem pt_above {id : Int} {l : List Sk} {x : Sk} (hr : Ris (l ++ [x])) (hp : pt id l = true) : id < x.id := by
  obtain ⟨y, hy, h⟩ := List.any_eq_true.1 hp
  simp at h
  have := (List.pairwise_append.1 hr).2.2 y hy x (List.mem_singleton.2 rfl)
  omega
theorem pl_in {s x : Sk} {l : List Sk} (hp : pt s.id l = true) (h : s.id < x.id) : pl s (l ++ [x]) = pl s l ++ [x] ∧ pt s.id (l ++ [x]) = true := by
  have h2 : pt s.id (l ++ [x]) = true := by rw [pt_snoc, hp]; simp
  refine ⟨?_, h2⟩
  unfold pl
  rw [h2, hp, lt_snoc, gt_snoc, if_neg (by omega), if_pos h]; simp
theorem pl_all {s : Sk} {l : List Sk} : putL l s = if pt s.id l then pl s l else pl s l ++ [s] := by
  unfold putL pl
  cases hp : pt s.id l
  · simp [(pt_no hp).2]
  · simp
theorem pl_len {s : Sk} {l : List Sk} : (pl s l).length ≤ l.length * 2 + 1 := by
  have h1 : (lt' s.id l).length ≤ l.length := List.length_filter_le _ _
  have h2 : (gt' s.id l).length ≤ l.length := List.length_filter_le _ _
  unfold pl
  split <;> simp <;> omega
theorem put_end {ss : List Sk} {s : Sk} (hr : Ris ss) (hk : okS s) (hn : ss.length ≤ 32) (hg : ∀ t ∈ ss, t.id = s.id → t.g = s.g) : (32 < (putL ss s).length → putE ss s = 7) ∧ (¬ 32 < (putL ss s).length → putE ss s = 0) ∧ (putL ss s).length ≤ 33 := by
  have hl : (putL ss s).length = (dr s.id ss).length + 1 := by rw [dr_ris hr]; unfold putL dropL; simp; omega
  have hd : (dr s.id ss).length ≤ ss.length := List.length_filter_le _ _
  by_cases hex : ∃ t ∈ ss, t.id = s.id
  · obtain ⟨t, ht, h⟩ := hex
    have hlt : (dr s.id ss).length < ss.length := List.length_filter_lt_length_iff_exists.2 ⟨t, ht, by simp [h]⟩
    exact ⟨fun h' => by omega, fun _ => put_old hr hk ht h (hg t ht h), by omega⟩
  · have hno : ∀ t ∈ ss, t.id ≠ s.id := fun t ht e => hex ⟨t, ht, e⟩
    have he : dr s.id ss = ss := List.filter_eq_self.2 fun t ht => by simpa using hno t ht
    rw [he] at hl
    exact ⟨fun h' => put_full hk hno (by omega), fun h' => put_new hk hno (by omega), by omega⟩
theorem ris_take {ss : List Sk} (h : Ris ss) (k : Nat) : Ris (ss.take k) := List.Pairwise.sublist (List.take_sublist _ _) h
theorem grown_cell {w0 w w' : World} {B n size : Nat} {e : TypeId} {v : Value} {xs : List Value} (hO : w0.ownsRow B e size v n xs) (hg : w.grownBy w' v.ownBlock) {b o : Nat} {x : Value} (hb : w0.heap.size ≤ b) (hc : w.cell? ⟨b, o, none⟩ = some x) : w'.cell? ⟨b, o, none⟩ = some x := by
  refine (World.cell?_of_block (w := w) (hg.block b (cell_lt hc) ?_)).trans hc
  intro e
  have := (hO.lt b e.symm).2
  omega
theorem gr_snoc {l : List Sk} {x : Sk} {id g : Int} (h : ∀ t ∈ l, t.id = id → t.g = g) (hx : x.id = id → x.g = g) : ∀ t ∈ l ++ [x], t.id = id → t.g = g := fun t ht e => by
  rcases List.mem_append.1 ht with h1 | h1
  · exact h t h1 e
  · rw [List.mem_singleton.1 h1] at e ⊢; exact hx e
theorem put_yes3 {ss : List Sk} {s : Sk} (h : putE ss s = 0) : putE ss s = 0 ∧ putH ss s = putL ss s ∧ putS ss s = change s.g (wants s.g ss).1 (wants s.g ss).2 (wants s.g (putL ss s)).1 (wants s.g (putL ss s)).2 := ⟨h, (putH_yes h).1, (putH_yes h).2⟩
def ruV (N B13 : Nat) (a : Option Addr) (n c : Nat) (g : Int) (a24 : Option Addr) (n24 c24 : Nat) (p1 p2 : Bool) (l1 l2 : List Int) : Nat → Value → List Value → World → Prop
  | 0, v, _, _ => v = .agg #[.slice a24 n24 c24]
  | 1, v, _, _ => v = .pointer (some ⟨N + 1, 1, none⟩)
  | 2, v, _, _ => v = .int .u32 g
  | 3, v, _, _ => v = .agg #[.slice a n c]
  | 4, v, _, _ => v = .pointer (some ⟨N + 1, 1, none⟩)
  | 5, v, _, _ => v = .int .u32 g
  | 6, v, _, w => ∃ (a29 : Option Addr) (c29 : Nat), v = .agg #[.bool p1, .slice a29 l1.length c29] ∧ As w a29 l1
  | 7, v, _, _ => v = .agg #[.slice a24 n24 c24]
  | 8, v, _, _ => v = .pointer (some ⟨N + 1, 1, none⟩)
  | 9, v, _, _ => v = .int .u32 g
  | 10, v, _, w => ∃ (a32 : Option Addr) (c32 : Nat), v = .agg #[.bool p2, .slice a32 l2.length c32] ∧ As w a32 l2 ∧ (a32 = none → c32 = 0)
  | 11, v, _, w => ∃ (b33 : Option Addr) (d33 : Nat) (rs33 : List Rc), v = .slice b33 (List.length rs33) d33 ∧ rs33.map Rc.nm = (change g p1 l1 p2 l2).map Rc.nm ∧ Rcs w b33 rs33 ∧ (b33 = none → d33 = 0)
  | 12, v, us, w => w.heap[N + 2]? = some (.cells #[.slice a24 n24 c24] 36 (0, 0))
  | 13, v, us, w => us = [v]
  | 14, v, _, _ => v = .int .i64 0
  | _, _, _, _ => True
def ruD : Nat → List Nat
  | 2 => [1]
  | 5 => [4]
  | 6 => [3, 5]
  | 9 => [8]
  | 10 => [7, 9]
  | 11 => [2, 6, 10]
  | 12 => [0]
  | 13 => [11]
  | _ => []
theorem ru_st (N B13 : Nat) (a : Option Addr) (n c : Nat) (g : Int) (a24 : Option Addr) (n24 c24 : Nat) (p1 p2 : Bool) (l1 l2 : List Int) {i : Nat} {v : Value} {us : List Value} {w w' : World} {j : Nat} (hne : i ≠ j) (hr : hR 0 12 j w w') (hv : ruV N B13 a n c g a24 n24 c24 p1 p2 l1 l2 i v us w) : ruV N B13 a n c g a24 n24 c24 p1 p2 l1 l2 i v us w' := by
  unfold ruV at hv ⊢
  split at hv
  all_goals first
    | exact hv
    | (obtain ⟨a29, c29, e, h29⟩ := hv; exact ⟨a29, c29, e, h29.tm hr.2.1.tm⟩)
    | (obtain ⟨a32, c32, e, h32, n32⟩ := hv; exact ⟨a32, c32, e, h32.tm hr.2.1.tm, n32⟩)
    | (obtain ⟨b33, d33, rs33, e, m33, k33, n33⟩ := hv; exact ⟨b33, d33, rs33, e, m33, k33.tm hr.2.1.tm, n33⟩)
    | (rcases hr.1 with e | e; exact absurd e.symm hne; exact (e.block _ (Array.getElem?_eq_some_iff.1 hv).1).trans hv)
set_option maxRecDepth 100000 in
set_option maxHeartbeats 16000000 in
theorem rPut (a : Option Addr) (n c : Nat) (ss : List Sk) (s : Sk) (w : World) (hx : ss.length = n) (hn32 : n ≤ 32) (hri : Ris ss) (hfew : FewI ss) (hS : Sks w a ss) (hF : FOk w s.f) (hsl : s.f.srcs.length ≤ 1000) (hg : 0 ≤ s.g ∧ s.g ≤ 4294967295) :
    Calls Try.prog 20 #[.agg #[.slice a n c], .agg #[.int .i64 s.id, .int .u32 s.g, .bool s.f.ex, s.f.sl]] w fun e w' => OutQ w e w' (putH ss s) (putS ss s) (putE ss s) := by
  obtain ⟨i0, hi, hz0, hz1, hz2⟩ := info_parts infoK
  obtain ⟨id, g, ⟨ex, srcs, fa, fc⟩⟩ := s
  simp only [Flt.sl] at hF hsl hg ⊢
  have HX := Lib.hid hx
  have HRI := Lib.hid hri
  have HFI := Lib.hid hfew
  have HG := Lib.hid hg
  have HSL := Lib.hid hsl
  have p0 := host_new w (.slice a n c)
  have q := sock_new (w.alloc (.cells #[.slice a n c] 36)) (.int .i64 id) (.int .u32 g) (.bool ex) (.slice fa srcs.length fc)
  rw [World.size_alloc] at q
  have hb1 := bel1 w (.cells #[.slice a n c] 36)
  have hb2 := bel1 (w.alloc (.cells #[.slice a n c] 36)) (.cells #[.int .i64 id, .int .u32 g, .bool ex, .slice fa srcs.length fc] 38)
  have hb3 := bel1 ((w.alloc (.cells #[.slice a n c] 36)).alloc (.cells #[.int .i64 id, .int .u32 g, .bool ex, .slice fa srcs.length fc] 38)) (.cells #[.slice none 0 0] 36)
  have hbx := Go.Deep.blk_alloc_new ((w.alloc (.cells #[.slice a n c] 36)).alloc (.cells #[.int .i64 id, .int .u32 g, .bool ex, .slice fa srcs.length fc] 38)) (.cells #[.slice none 0 0] 36)
  rw [World.size_alloc, World.size_alloc] at hbx
  have hs3 : (((w.alloc (.cells #[.slice a n c] 36)).alloc (.cells #[.int .i64 id, .int .u32 g, .bool ex, .slice fa srcs.length fc] 38)).alloc (.cells #[.slice none 0 0] 36)).heap.size = w.heap.size + 3 := by simp
  have c0 := (hb3.cell (cell_lt ((hb2.cell (cell_lt p0)).trans p0))).trans ((hb2.cell (cell_lt p0)).trans p0)
  have s0 := (hb3.cell (cell_lt q.1)).trans q.1
  have s1 := (hb3.cell (cell_lt q.2.1)).trans q.2.1
  have s2 := (hb3.cell (cell_lt q.2.2.1)).trans q.2.2.1
  have s3 := (hb3.cell (cell_lt q.2.2.2)).trans q.2.2.2
  have HBX := Lib.hid hbx
  have hbw := (hb1.trans (hb2.mono hb1.size)).trans (hb3.mono (hb1.trans (hb2.mono hb1.size)).size)
  have HW1 := Lib.hid hbw
  have HS1 := Lib.hid hs3
  have HSK := Lib.hid (hS.below hbw)
  have HFO := Lib.hid (hF.below hbw)
  have HB0 : Hid (Below (((w.alloc (.cells #[.slice a n c] 36)).alloc (.cells #[.int .i64 id, .int .u32 g, .bool ex, .slice fa srcs.length fc] 38)).alloc (.cells #[.slice none 0 0] 36)).heap.size (((w.alloc (.cells #[.slice a n c] 36)).alloc (.cells #[.int .i64 id, .int .u32 g, .bool ex, .slice fa srcs.length fc] 38)).alloc (.cells #[.slice none 0 0] 36)) (((w.alloc (.cells #[.slice a n c] 36)).alloc (.cells #[.int .i64 id, .int .u32 g, .bool ex, .slice fa srcs.length fc] 38)).alloc (.cells #[.slice none 0 0] 36))) := Lib.hid (Below.refl _ _)
  clear hx hri hfew hg hsl p0 q hb1 hb2 hb3 hbx hbw hs3 hS hF
  go_enter Try.func20, Try.ntmps20
  go_wp2_with fail
  generalize ((w.alloc (.cells #[.slice a n c] 36)).alloc (.cells #[.int .i64 id, .int .u32 g, .bool ex, .slice fa srcs.length fc] 38)).alloc (.cells #[.slice none 0 0] 36) = w1 at *
  have hR := rSocket ⟨id, g, ⟨ex, srcs, fa, fc⟩⟩ w1 HFO.out (Nat.le_trans HSL.out (by decide))
  simp only [Flt.sl] at hR
  refine hR.mono ?_
  clear hR
  rintro e wa ⟨rfl, hb⟩
  replace c0 := (hb.cell (cell_lt c0)).trans c0
  replace s0 := (hb.cell (cell_lt s0)).trans s0
  replace s1 := (hb.cell (cell_lt s1)).trans s1
  replace s2 := (hb.cell (cell_lt s2)).trans s2
  replace s3 := (hb.cell (cell_lt s3)).trans s3
  have HBX := Lib.hid ((hb.block _ (Array.getElem?_eq_some_iff.1 HBX.out).1).trans HBX.out)
  have HSK := Lib.hid (HSK.out.below hb)
  have HFO := Lib.hid (HFO.out.below hb)
  have HB1 := Lib.hid hb
  have HS2 : Hid (w.heap.size + 3 ≤ wa.heap.size) := Lib.hid (by have := hb.size; have := HS1.out; omega)
  clear hb HB0
  by_cases hok : okS ⟨id, g, ⟨ex, srcs, fa, fc⟩⟩
  · rw [decide_eq_true hok]
    have HOK := Lib.hid hok
    clear hok
    go_wp2
    have C0 := Lib.hid c0
    have S0 := Lib.hid s0
    have S1 := Lib.hid s1
    have S2 := Lib.hid s2
    have S3 := Lib.hid s3
    clear c0 s0 s1 s2 s3
    go_loopw [8, 9, 10] (fun v8 v9 v10 wr => ∃ (k : Nat) (a8 : Option Addr) (c8 : Nat), v8 = .slice a8 (pl ⟨id, g, ⟨ex, srcs, fa, fc⟩⟩ (ss.take k)).length c8 ∧ v9 = .bool (pt id (ss.take k)) ∧ v10 = .int .i64 (k : Int) ∧ k ≤ n ∧ wr.ownsRow wa.heap.size 38 4 (.slice a8 (pl ⟨id, g, ⟨ex, srcs, fa, fc⟩⟩ (ss.take k)).length c8) (pl ⟨id, g, ⟨ex, srcs, fa, fc⟩⟩ (ss.take k)).length (sv (pl ⟨id, g, ⟨ex, srcs, fa, fc⟩⟩ (ss.take k))) ∧ Below wa.heap.size wa wr ∧ ∀ t ∈ ss.take k, t.id = id → t.g = g) (fun _ _ v _ => n - (intOf v).toNat)
    case atStart => exact ⟨0, none, 0, by simp [pl, pt, lt'], by simp [pt], rfl, by omega, by simpa [pl, pt, lt', sv] using World.ownsRow_nil _ _ _ _, Below.refl _ _, by simp⟩
    case round =>
      obtain ⟨k, a8, c8, rfl, rfl, rfl, hk, ho, hB, hgr⟩ := hrel
      have HO := Lib.hid ho
      have HB := Lib.hid hB
      have HGR := Lib.hid hgr
      have c0 := (hB.cell (cell_lt C0.out)).trans C0.out
      have s0 := (hB.cell (cell_lt S0.out)).trans S0.out
      have s1 := (hB.cell (cell_lt S1.out)).trans S1.out
      have s2 := (hB.cell (cell_lt S2.out)).trans S2.out
      have s3 := (hB.cell (cell_lt S3.out)).trans S3.out
      have hNs : wa.heap.size ≤ wr.heap.size := hB.size
      have hNs2 : w.heap.size + 3 ≤ wr.heap.size := Nat.le_trans HS2.out hNs
      have hol : (pl ⟨id, g, ⟨ex, srcs, fa, fc⟩⟩ (ss.take k)).length ≤ 100 := Nat.le_trans pl_len (by rw [List.length_take]; omega)
      clear ho hB hgr
      by_cases hlt : k < n
      · obtain ⟨b, off, rfl, hc⟩ := HSK.out.at (k := k) (by rw [HX.out]; exact hlt)
        obtain ⟨⟨sid, gr, ⟨ex2, srcs2, fa2, fc2⟩⟩, hfk⟩ : ∃ s, ss[k]? = some s := ⟨_, List.getElem?_eq_getElem (by rw [HX.out]; exact hlt)⟩
        obtain ⟨⟨d0, d1, d2, d3⟩, hfo, -⟩ := (hc k _ hfk).below HB.out
        simp only [Flt.sl] at d0 d1 d2 d3 hfo
        have d4 : wr.cell? ⟨b, off + k * 4 + 2 + 1, none⟩ = some (.slice fa2 srcs2.length fc2) := d3
        have HFK := Lib.hid hfk
        have hris := ris_take HRI.out (k + 1)
        rw [takeS hfk] at hris
        have HRK := Lib.hid hris
        have hkz : (k : Int) < (n : Int) := by omega
        have q := sock_new wr (.int .i64 sid) (.int .u32 gr) (.bool ex2) (.slice fa2 srcs2.length fc2)
        have hbn := bel1 wr (.cells #[.int .i64 sid, .int .u32 gr, .bool ex2, .slice fa2 srcs2.length fc2] 38)
        obtain ⟨x0, x1, x2, x3⟩ := q
        have C4 := (hbn.cell (cell_lt c0)).trans c0
        have y0 := (hbn.cell (cell_lt s0)).trans s0
        have y1 := (hbn.cell (cell_lt s1)).trans s1
        have y2 := (hbn.cell (cell_lt s2)).trans s2
        have y3 := (hbn.cell (cell_lt s3)).trans s3
        have HBN := Lib.hid hbn
        obtain ⟨pb, hpb⟩ : ∃ pb, pt id (ss.take k) = pb := ⟨_, rfl⟩
        rw [hpb]
        have HPB := Lib.hid hpb
        have HNS := Lib.hid (news_new (wr.alloc (.cells #[.int .i64 sid, .int .u32 gr, .bool ex2, .slice fa2 srcs2.length fc2] 38)) [.int .i64 id, .int .u32 g, .bool ex, .slice fa srcs.length fc] 38)
        have HNX := Lib.hid (news_new (wr.alloc (.cells #[.int .i64 sid, .int .u32 gr, .bool ex2, .slice fa2 srcs2.length fc2] 38)) [.int .i64 sid, .int .u32 gr, .bool ex2, .slice fa2 srcs2.length fc2] 38)
        rw [World.size_alloc] at HNS HNX
        have HO4 := Lib.hid (HO.out.alloc (.cells #[.int .i64 sid, .int .u32 gr, .bool ex2, .slice fa2 srcs2.length fc2] 38))
        obtain ⟨ln, hln⟩ : ∃ ln, (pl ⟨id, g, ⟨ex, srcs, fa, fc⟩⟩ (ss.take k)).length = ln := ⟨_, rfl⟩
        rw [hln] at HO HO4 hol ⊢
        have HLN := Lib.hid hln
        clear hc hfk hfo hris hbn hpb hln
        by_cases hid : sid = id
        · have hi1 : (sid == id) = true := by simpa using hid
          have hne : (sid != id) = false := by simpa using hid
          have hge : id ≤ sid := by omega
          have HID := Lib.hid hid
          clear hid
          cases pb
          · by_cases hgg : gr = g
            · have hgg1 : (gr != g) = false := by simpa using hgg
              have HGG := Lib.hid hgg
              have HPK := Lib.hid (pl_eq (s := ⟨id, g, ⟨ex, srcs, fa, fc⟩⟩) (x := ⟨sid, gr, ⟨ex2, srcs2, fa2, fc2⟩⟩) HPB.out HID.out)
              clear hgg
              have hb5 := bel1 (wr.alloc (.cells #[.int .i64 sid, .int .u32 gr, .bool ex2, .slice fa2 srcs2.length fc2] 38)) (.cells #[.int .i64 id, .int .u32 g, .bool ex, .slice fa srcs.length fc] 38)
              have X0 := Lib.hid ((hb5.cell (cell_lt x0)).trans x0)
              have X1 := Lib.hid ((hb5.cell (cell_lt x1)).trans x1)
              have X2 := Lib.hid ((hb5.cell (cell_lt x2)).trans x2)
              have X3 := Lib.hid ((hb5.cell (cell_lt x3)).trans x3)
              have Y0 := Lib.hid ((hb5.cell (cell_lt y0)).trans y0)
              clear hb5
              go_wp2_with ((refine wpList_app_cell rfl 34 38 i0 _ 4 48 Try.underlying34 hi hz0 hz1 hz2 rfl (by decide) (by omega) (.tmp 52) (.tmp 54) rfl wa.heap.size _ (ln) (sv (pl ⟨id, g, ⟨ex, srcs, fa, fc⟩⟩ (ss.take k))) rfl (HO4.out.alloc _) ⟨wr.heap.size + 1, 0, none⟩ 1 [.int .i64 id, .int .u32 g, .bool ex, .slice fa srcs.length fc] rfl rfl (HNS.out) (by simp [Value.oneCell']) (by omega) (by simp; omega) ?_; intro a5 cap5 w5 hown hgw; have hgb := grown_below (HO4.out.alloc (.cells #[.int .i64 id, .int .u32 g, .bool ex, .slice fa srcs.length fc] 38)) hgw.out (by simp; omega); have hz := hgb.size; have z0 := grown_cell HO.out hgw.out (Nat.le_refl _) X0.out; have z1 := grown_cell HO.out hgw.out (Nat.le_refl _) X1.out; have z2 := grown_cell HO.out hgw.out (Nat.le_refl _) X2.out; have z3 := grown_cell HO.out hgw.out (Nat.le_refl _) X3.out; have u0 := (hgb.cell (p := ⟨w.heap.size + 1, 0, none⟩) (by show w.heap.size + 1 < _; have := HS2.out; omega)).trans Y0.out; have HGB := Lib.hid hgb; clear hgb))
              go_roundw
              case rel =>
                have e : pl ⟨id, g, ⟨ex, srcs, fa, fc⟩⟩ (ss.take (k + 1)) = pl ⟨id, g, ⟨ex, srcs, fa, fc⟩⟩ (ss.take k) ++ [⟨id, g, ⟨ex, srcs, fa, fc⟩⟩] := by rw [takeS HFK.out]; exact (HPK.out.1)
                have e2 : pt id (ss.take (k + 1)) = true := by rw [takeS HFK.out]; exact HPK.out.2
                refine ⟨k + 1, a5, cap5, by rw [e, List.length_append, HLN.out]; rfl, by rw [e2], by go_num, by omega, ?_, HB.out.trans ((((Below.refl _ wr).alloc hNs (.cells #[.int .i64 sid, .int .u32 gr, .bool ex2, .slice fa2 srcs2.length fc2] 38)).alloc (by simp; omega) (.cells #[.int .i64 id, .int .u32 g, .bool ex, .slice fa srcs.length fc] 38)).trans HGB.out), by rw [takeS HFK.out]; exact gr_snoc HGR.out (fun _ => HGG.out)⟩
                rw [e, List.length_append, HLN.out, sv_append, show sv [⟨id, g, ⟨ex, srcs, fa, fc⟩⟩] = _ from rfl]
                exact hown.out
              case measure => simp [intOf]; omega
            · have HE : Hid (putE ss ⟨id, g, ⟨ex, srcs, fa, fc⟩⟩ = 1) := Lib.hid (put_grp HOK.out (List.mem_of_getElem? HFK.out) HID.out hgg)
              have hgg1 : (gr != g) = true := by simpa using hgg
              clear hgg
              obtain ⟨⟨r0, r1⟩, hl2, htm, hb9, -⟩ := fin_host ((HBN.out.block _ (by omega)).trans ((HB.out.block _ (by have := HS2.out; omega)).trans HBX.out)) (show Below (w.heap.size + 2) w1 ((wr.alloc (.cells #[.int .i64 sid, .int .u32 gr, .bool ex2, .slice fa2 srcs2.length fc2] 38))) from ((HB1.out.trans (HB.out.mono HB1.out.size)).trans (HBN.out.mono (HB1.out.trans (HB.out.mono HB1.out.size)).size)).mono (by have := HS1.out; omega)) (some ⟨b, off, none⟩) n c
              have HL2 := Lib.hid hl2
              have HTM := Lib.hid htm
              have HB9 := Lib.hid (HW1.out.trans (hb9.mono (by omega)))
              clear hl2 htm hb9
              go_wp2_with fail
              refine ret_cell3 (p := 4) (u := 5) (v := 6) rfl rfl rfl HL2.out ?_
              rw [(putH_no (by rw [HE.out]; decide)).1, (putH_no (by rw [HE.out]; decide)).2, HE.out]
              obtain rfl := HX.out
              exact ⟨⟨_, c, ss, none, 0, [], rfl, ⟨rfl, ((HSK.out.below HB.out).below HBN.out).tm HTM.out⟩, rfl, Rcs.nil _ _⟩, HB9.out⟩
          · exact absurd (pt_above HRK.out HPB.out) (by show ¬ id < sid; have := HID.out; omega)
        · have hi1 : (sid == id) = false := by simpa using hid
          have hne : (sid != id) = true := by simpa using hid
          have HNE : Hid ((⟨sid, gr, ⟨ex2, srcs2, fa2, fc2⟩⟩ : Sk).id ≠ id) := Lib.hid hid
          cases pb
          · by_cases hlt2 : sid < id
            · have hge : decide (id ≤ sid) = false := decide_eq_false (by omega)
              have HPK := Lib.hid (pl_lt (s := ⟨id, g, ⟨ex, srcs, fa, fc⟩⟩) (x := ⟨sid, gr, ⟨ex2, srcs2, fa2, fc2⟩⟩) HPB.out hlt2)
              clear hlt2 hid
              go_wp2_with ((refine wpList_app_cell rfl 34 38 i0 _ 4 48 Try.underlying34 hi hz0 hz1 hz2 rfl (by decide) (by omega) (.tmp 61) (.tmp 63) rfl wa.heap.size _ (ln) (sv (pl ⟨id, g, ⟨ex, srcs, fa, fc⟩⟩ (ss.take k))) rfl (HO4.out.alloc _) ⟨wr.heap.size + 1, 0, none⟩ 1 [.int .i64 sid, .int .u32 gr, .bool ex2, .slice fa2 srcs2.length fc2] rfl rfl (HNX.out) (by simp [Value.oneCell']) (by omega) (by simp; omega) ?_; intro a6 cap6 w6 hown6 hgw6; have hgb6 := grown_below (HO4.out.alloc (.cells #[.int .i64 sid, .int .u32 gr, .bool ex2, .slice fa2 srcs2.length fc2] 38)) hgw6.out (by simp; omega); have HG6 := Lib.hid hgb6; clear hgb6))
              go_roundw
              case rel =>
                have e : pl ⟨id, g, ⟨ex, srcs, fa, fc⟩⟩ (ss.take (k + 1)) = pl ⟨id, g, ⟨ex, srcs, fa, fc⟩⟩ (ss.take k) ++ [⟨sid, gr, ⟨ex2, srcs2, fa2, fc2⟩⟩] := by rw [takeS HFK.out]; exact (HPK.out.1)
                have e2 : pt id (ss.take (k + 1)) = false := by rw [takeS HFK.out]; exact HPK.out.2
                refine ⟨k + 1, a6, cap6, by rw [e, List.length_append, HLN.out]; rfl, by rw [e2], by go_num, by omega, ?_, HB.out.trans ((((Below.refl _ wr).alloc hNs (.cells #[.int .i64 sid, .int .u32 gr, .bool ex2, .slice fa2 srcs2.length fc2] 38)).alloc (by simp; omega) (.cells #[.int .i64 sid, .int .u32 gr, .bool ex2, .slice fa2 srcs2.length fc2] 38)).trans HG6.out), by rw [takeS HFK.out]; exact gr_snoc HGR.out (fun e => absurd e HNE.out)⟩
                rw [e, List.length_append, HLN.out, sv_append, show sv [⟨sid, gr, ⟨ex2, srcs2, fa2, fc2⟩⟩] = _ from rfl]
                exact hown6.out
              case measure => simp [intOf]; omega
            · have hge : id ≤ sid := by omega
              have HPK := Lib.hid (pl_gt (s := ⟨id, g, ⟨ex, srcs, fa, fc⟩⟩) (x := ⟨sid, gr, ⟨ex2, srcs2, fa2, fc2⟩⟩) HPB.out (by show id < sid; omega))
              clear hlt2 hid
              have hb5 := bel1 (wr.alloc (.cells #[.int .i64 sid, .int .u32 gr, .bool ex2, .slice fa2 srcs2.length fc2] 38)) (.cells #[.int .i64 id, .int .u32 g, .bool ex, .slice fa srcs.length fc] 38)
              have X0 := Lib.hid ((hb5.cell (cell_lt x0)).trans x0)
              have X1 := Lib.hid ((hb5.cell (cell_lt x1)).trans x1)
              have X2 := Lib.hid ((hb5.cell (cell_lt x2)).trans x2)
              have X3 := Lib.hid ((hb5.cell (cell_lt x3)).trans x3)
              have Y0 := Lib.hid ((hb5.cell (cell_lt y0)).trans y0)
              clear hb5
              go_wp2_with (first | (refine wpList_app_cell rfl 34 38 i0 _ 4 48 Try.underlying34 hi hz0 hz1 hz2 rfl (by decide) (by omega) (.tmp 52) (.tmp 54) rfl wa.heap.size _ (ln) (sv (pl ⟨id, g, ⟨ex, srcs, fa, fc⟩⟩ (ss.take k))) rfl (HO4.out.alloc _) ⟨wr.heap.size + 1, 0, none⟩ 1 [.int .i64 id, .int .u32 g, .bool ex, .slice fa srcs.length fc] rfl rfl (HNS.out) (by simp [Value.oneCell']) (by omega) (by simp; omega) ?_; intro a5 cap5 w5 hown hgw; have hgb := grown_below (HO4.out.alloc (.cells #[.int .i64 id, .int .u32 g, .bool ex, .slice fa srcs.length fc] 38)) hgw.out (by simp; omega); have hz := hgb.size; have z0 := grown_cell HO.out hgw.out (Nat.le_refl _) X0.out; have z1 := grown_cell HO.out hgw.out (Nat.le_refl _) X1.out; have z2 := grown_cell HO.out hgw.out (Nat.le_refl _) X2.out; have z3 := grown_cell HO.out hgw.out (Nat.le_refl _) X3.out; have u0 := (hgb.cell (p := ⟨w.heap.size + 1, 0, none⟩) (by show w.heap.size + 1 < _; have := HS2.out; omega)).trans Y0.out; have HGB := Lib.hid hgb; clear hgb) | (refine wpList_app_cell rfl 34 38 i0 _ 4 48 Try.underlying34 hi hz0 hz1 hz2 rfl (by decide) (by omega) (.tmp 61) (.tmp 63) rfl wa.heap.size _ (ln + 1) (sv (pl ⟨id, g, ⟨ex, srcs, fa, fc⟩⟩ (ss.take k)) ++ [.int .i64 id, .int .u32 g, .bool ex, .slice fa srcs.length fc]) rfl (hown.out.alloc _) ⟨w5.heap.size, 0, none⟩ 1 [.int .i64 sid, .int .u32 gr, .bool ex2, .slice fa2 srcs2.length fc2] rfl rfl (news_new w5 [.int .i64 sid, .int .u32 gr, .bool ex2, .slice fa2 srcs2.length fc2] 38) (by simp [Value.oneCell']) (by omega) (by simp at hz ⊢; omega) ?_; intro a6 cap6 w6 hown6 hgw6; have hgb6 := grown_below (hown.out.alloc (.cells #[.int .i64 sid, .int .u32 gr, .bool ex2, .slice fa2 srcs2.length fc2] 38)) hgw6.out (by simp at hz ⊢; omega); have HG6 := Lib.hid hgb6; clear hgb6))
              go_roundw
              case rel =>
                have e : pl ⟨id, g, ⟨ex, srcs, fa, fc⟩⟩ (ss.take (k + 1)) = pl ⟨id, g, ⟨ex, srcs, fa, fc⟩⟩ (ss.take k) ++ [⟨id, g, ⟨ex, srcs, fa, fc⟩⟩] ++ [⟨sid, gr, ⟨ex2, srcs2, fa2, fc2⟩⟩] := by rw [takeS HFK.out]; exact (HPK.out.1)
                have e2 : pt id (ss.take (k + 1)) = true := by rw [takeS HFK.out]; exact HPK.out.2
                refine ⟨k + 1, a6, cap6, by rw [e, List.length_append, List.length_append, HLN.out]; rfl, by rw [e2], by go_num, by omega, ?_, HB.out.trans ((((((Below.refl _ wr).alloc hNs (.cells #[.int .i64 sid, .int .u32 gr, .bool ex2, .slice fa2 srcs2.length fc2] 38)).alloc (by simp; omega) (.cells #[.int .i64 id, .int .u32 g, .bool ex, .slice fa srcs.length fc] 38)).trans HGB.out).alloc (by simp at hz ⊢; omega) (.cells #[.int .i64 sid, .int .u32 gr, .bool ex2, .slice fa2 srcs2.length fc2] 38)).trans HG6.out), by rw [takeS HFK.out]; exact gr_snoc HGR.out (fun e => absurd e HNE.out)⟩
                rw [e, List.length_append, List.length_append, HLN.out, sv_append, sv_append, show sv [⟨sid, gr, ⟨ex2, srcs2, fa2, fc2⟩⟩] = _ from rfl]
                exact hown6.out
              case measure => simp [intOf]; omega
          · have HPK := Lib.hid (pl_in (s := ⟨id, g, ⟨ex, srcs, fa, fc⟩⟩) (x := ⟨sid, gr, ⟨ex2, srcs2, fa2, fc2⟩⟩) HPB.out (pt_above HRK.out HPB.out))
            clear hid
            go_wp2_with ((refine wpList_app_cell rfl 34 38 i0 _ 4 48 Try.underlying34 hi hz0 hz1 hz2 rfl (by decide) (by omega) (.tmp 61) (.tmp 63) rfl wa.heap.size _ (ln) (sv (pl ⟨id, g, ⟨ex, srcs, fa, fc⟩⟩ (ss.take k))) rfl (HO4.out.alloc _) ⟨wr.heap.size + 1, 0, none⟩ 1 [.int .i64 sid, .int .u32 gr, .bool ex2, .slice fa2 srcs2.length fc2] rfl rfl (HNX.out) (by simp [Value.oneCell']) (by omega) (by simp; omega) ?_; intro a6 cap6 w6 hown6 hgw6; have hgb6 := grown_below (HO4.out.alloc (.cells #[.int .i64 sid, .int .u32 gr, .bool ex2, .slice fa2 srcs2.length fc2] 38)) hgw6.out (by simp; omega); have HG6 := Lib.hid hgb6; clear hgb6))
            go_roundw
            case rel =>
              have e : pl ⟨id, g, ⟨ex, srcs, fa, fc⟩⟩ (ss.take (k + 1)) = pl ⟨id, g, ⟨ex, srcs, fa, fc⟩⟩ (ss.take k) ++ [⟨sid, gr, ⟨ex2, srcs2, fa2, fc2⟩⟩] := by rw [takeS HFK.out]; exact (HPK.out.1)
              have e2 : pt id (ss.take (k + 1)) = true := by rw [takeS HFK.out]; exact HPK.out.2
              refine ⟨k + 1, a6, cap6, by rw [e, List.length_append, HLN.out]; rfl, by rw [e2], by go_num, by omega, ?_, HB.out.trans ((((Below.refl _ wr).alloc hNs (.cells #[.int .i64 sid, .int .u32 gr, .bool ex2, .slice fa2 srcs2.length fc2] 38)).alloc (by simp; omega) (.cells #[.int .i64 sid, .int .u32 gr, .bool ex2, .slice fa2 srcs2.length fc2] 38)).trans HG6.out), by rw [takeS HFK.out]; exact gr_snoc HGR.out (fun e => absurd e HNE.out)⟩
              rw [e, List.length_append, HLN.out, sv_append, show sv [⟨sid, gr, ⟨ex2, srcs2, fa2, fc2⟩⟩] = _ from rfl]
              exact hown6.out
            case measure => simp [intOf]; omega
      · obtain rfl : n = k := by omega
        have htk : ss.take n = ss := List.take_of_length_le (by rw [HX.out]; exact Nat.le_refl _)
        have HO' := HO.out
        have hgr := HGR.out
        rw [htk] at HO' hol hgr ⊢
        have hend := put_end (s := ⟨id, g, ⟨ex, srcs, fa, fc⟩⟩) HRI.out HOK.out (by rw [HX.out]; exact hn32) hgr
        have HEND := Lib.hid hend
        have hpl := pl_all (s := ⟨id, g, ⟨ex, srcs, fa, fc⟩⟩) (l := ss)
        have HPL := Lib.hid hpl
        have HBW := Lib.hid (HW1.out.trans ((HB1.out.trans (HB.out.mono HB1.out.size)).mono HW1.out.size))
        clear htk hgr hend hpl HO
        obtain ⟨pb, hpb⟩ : ∃ pb, pt id ss = pb := ⟨_, rfl⟩
        rw [hpb]
        have HPB := Lib.hid hpb
        have HPL2 := HPL.out
        rw [show pt (⟨id, g, ⟨ex, srcs, fa, fc⟩⟩ : Sk).id ss = pb from hpb] at HPL2
        clear hpb
        have HBXr := Lib.hid ((HB.out.block _ (Array.getElem?_eq_some_iff.1 HBX.out).1).trans HBX.out)
        have HSKr := Lib.hid (HSK.out.below HB.out)
        have HFOr := Lib.hid (HFO.out.below HB.out)
        have HB1r := Lib.hid (HB1.out.trans (HB.out.mono HB1.out.size))
        have HO2 := Lib.hid HO'
        clear HO'
        obtain ⟨lst, hlst⟩ : ∃ l, pl ⟨id, g, ⟨ex, srcs, fa, fc⟩⟩ ss = l := ⟨_, rfl⟩
        rw [hlst] at HO2 hol HPL2 ⊢
        clear hlst
        obtain ⟨ln, hln⟩ : ∃ ln, lst.length = ln := ⟨_, rfl⟩
        rw [hln] at HO2 hol ⊢
        have HLN := Lib.hid hln
        clear hln
        cases pb
        · have HPL3 : Hid (putL ss ⟨id, g, ⟨ex, srcs, fa, fc⟩⟩ = lst ++ [⟨id, g, ⟨ex, srcs, fa, fc⟩⟩]) := Lib.hid (by simpa using HPL2)
          clear HPL2
          have HNS := Lib.hid (news_new wr [.int .i64 id, .int .u32 g, .bool ex, .slice fa srcs.length fc] 38)
          have hEND := HEND.out
          have hl33 : (putL ss ⟨id, g, ⟨ex, srcs, fa, fc⟩⟩).length = ln + 1 := by rw [HPL3.out]; have := HLN.out; simp [this]
          rw [hl33] at hEND
          have HN24 := Lib.hid hl33
          by_cases h32 : 32 < ln + 1
          · have HE : Hid (putE ss ⟨id, g, ⟨ex, srcs, fa, fc⟩⟩ = 7) := Lib.hid (hEND.1 h32)
            have h32a : (32 : Int) < ((ln + 1 : Nat) : Int) := by omega
            have h32b : (32 : Int) < ((ln : Int) + 1) := by omega
            clear hl33 hEND h32
            go_wp2_with ((refine wpList_app_cell rfl 34 38 i0 _ 4 48 Try.underlying34 hi hz0 hz1 hz2 rfl (by decide) (by omega) (.tmp 67) (.tmp 69) rfl wa.heap.size _ (ln) (sv lst) rfl (HO2.out.alloc _) ⟨wr.heap.size, 0, none⟩ 1 [.int .i64 id, .int .u32 g, .bool ex, .slice fa srcs.length fc] rfl rfl (HNS.out) (by simp [Value.oneCell']) (by omega) (by simp; omega) ?_; intro a' cap' w' hown hgw; have hgb := grown_below (HO2.out.alloc (.cells #[.int .i64 id, .int .u32 g, .bool ex, .slice fa srcs.length fc] 38)) hgw.out (by simp; omega); have hbb := ((Below.refl _ wr).alloc hNs (.cells #[.int .i64 id, .int .u32 g, .bool ex, .slice fa srcs.length fc] 38)).trans hgb; have HBA := Lib.hid hbb; clear hgb hbb; have HBT := Lib.hid (HB.out.trans HBA.out); have cx := (HBT.out.cell (cell_lt C0.out)).trans C0.out; obtain ⟨⟨r0, r1⟩, hl2, htm, hb9, -⟩ := fin_host ((HBT.out.block _ (Array.getElem?_eq_some_iff.1 HBX.out).1).trans HBX.out) (show Below (w.heap.size + 2) w1 w' from (HB1.out.trans (HBT.out.mono HB1.out.size)).mono (by have := HS1.out; omega)) a n c; have HL2 := Lib.hid hl2; have HTM := Lib.hid htm; have HB9 := Lib.hid (HW1.out.trans (hb9.mono (by omega))); clear hl2 htm hb9))
            refine ret_cell3 (p := 4) (u := 5) (v := 6) rfl rfl rfl HL2.out ?_
            rw [(putH_no (by rw [HE.out]; decide)).1, (putH_no (by rw [HE.out]; decide)).2, HE.out]
            obtain rfl := HX.out
            exact ⟨⟨a, c, ss, none, 0, [], rfl, ⟨rfl, (HSK.out.below HBT.out).tm HTM.out⟩, rfl, Rcs.nil _ _⟩, HB9.out⟩
          · have HDY := Lib.hid (put_yes3 (hEND.2.1 h32))
            have h32a : decide ((32 : Int) < ((ln + 1 : Nat) : Int)) = false := decide_eq_false (by omega)
            have h32b : decide ((32 : Int) < ((ln : Int) + 1)) = false := decide_eq_false (by omega)
            have hn33 := hEND.2.2
            clear hl33 hEND h32
            go_wp2_with ((refine wpList_app_cell rfl 34 38 i0 _ 4 48 Try.underlying34 hi hz0 hz1 hz2 rfl (by decide) (by omega) (.tmp 67) (.tmp 69) rfl wa.heap.size _ (ln) (sv lst) rfl (HO2.out.alloc _) ⟨wr.heap.size, 0, none⟩ 1 [.int .i64 id, .int .u32 g, .bool ex, .slice fa srcs.length fc] rfl rfl (HNS.out) (by simp [Value.oneCell']) (by omega) (by simp; omega) ?_; intro a' cap' w' hown hgw; have hgb := grown_below (HO2.out.alloc (.cells #[.int .i64 id, .int .u32 g, .bool ex, .slice fa srcs.length fc] 38)) hgw.out (by simp; omega); have hbb := ((Below.refl _ wr).alloc hNs (.cells #[.int .i64 id, .int .u32 g, .bool ex, .slice fa srcs.length fc] 38)).trans hgb; have HBA := Lib.hid hbb; clear hgb hbb))
            have HO3 : Hid (w'.ownsRow wa.heap.size 38 4 (.slice a' (ln + 1) cap') (ln + 1) (sv (putL ss ⟨id, g, ⟨ex, srcs, fa, fc⟩⟩))) := Lib.hid (by rw [HPL3.out, sv_append]; exact hown.out)
            have HBZ : Hid (Below wa.heap.size wr w') := Lib.hid (HBA.out)
            obtain ⟨n24, hn24⟩ : ∃ m, ln + 1 = m := ⟨_, rfl⟩
            rw [hn24] at HN24 HO3 hn33 ⊢
            clear hn24
            have hm : ∀ s ∈ putL ss ⟨id, g, ⟨ex, srcs, fa, fc⟩⟩, (FOk wa s.f ∧ 0 ≤ s.g ∧ s.g ≤ 4294967295) ∧ s.f.srcs.length ≤ 16 ∧ Inc s.f.srcs := fun s hs => by
              rcases putL_mem.1 hs with rfl | ⟨hs, -⟩
              · exact ⟨⟨HFO.out, HG.out⟩, HOK.out.2.2⟩
              · exact ⟨HSK.out.mem hs, HFI.out.2 s hs⟩
            have HM := Lib.hid hm
            have HF24 : Hid (FewI (putL ss ⟨id, g, ⟨ex, srcs, fa, fc⟩⟩)) := Lib.hid ⟨by rw [HN24.out]; omega, fun s hs => (hm s hs).2⟩
            clear hm
            obtain ⟨ss24, h24⟩ : ∃ l, putL ss ⟨id, g, ⟨ex, srcs, fa, fc⟩⟩ = l := ⟨_, rfl⟩
            rw [h24] at HO3 HM HF24 HN24 HDY
            clear h24
            have HBT := Lib.hid (HB.out.trans (HBZ.out.mono (by omega)))
            have HK := Lib.hid (own_sks HO3.out HN24.out (fun s hs => ⟨(HM.out s hs).1.1.below HBT.out, (HM.out s hs).1.2⟩))
            have hb4 := bel1 w' (.cells #[.slice a' n24 cap'] 36)
            have C13 := Lib.hid (host_new w' (.slice a' n24 cap'))
            have H24 := Lib.hid (HK.out.below hb4)
            have cc := (HBT.out.cell (cell_lt C0.out)).trans C0.out
            have CH2 := Lib.hid ((hb4.cell (cell_lt cc)).trans cc)
            have cg := (HBT.out.cell (cell_lt S1.out)).trans S1.out
            have CG := Lib.hid ((hb4.cell (cell_lt cg)).trans cg)
            have hbxt := (HBT.out.block _ (Array.getElem?_eq_some_iff.1 HBX.out).1).trans HBX.out
            have HBX2 := Lib.hid ((hb4.block _ (Array.getElem?_eq_some_iff.1 hbxt).1).trans hbxt)
            have hwz := HW1.out.trans ((HB1.out.trans (HBT.out.mono HB1.out.size)).mono HW1.out.size)
            have HW2 := Lib.hid (hwz.trans (hb4.mono hwz.size))
            have HSK2 := Lib.hid ((HSK.out.below HBT.out).below hb4)
            have HBB : Hid (w.heap.size + 3 ≤ w'.heap.size) := Lib.hid (by have := HBZ.out.size; omega)
            clear hb4 cc cg hbxt hwz HO3 HK HBT HBX HSK HW1 HB HBZ
            obtain ⟨⟨p1, l1⟩, hw1⟩ : ∃ p, wants g ss = p := ⟨_, rfl⟩
            obtain ⟨⟨p2, l2⟩, hw2⟩ : ∃ p, wants g ss24 = p := ⟨_, rfl⟩
            have hfl1 := (FewI.lens HFI.out g)
            have hfl2 := (FewI.lens HF24.out g)
            have hi1 := wants_incI HFI.out g
            have hi2 := wants_incI HF24.out g
            rw [hw1] at hfl1 hi1
            rw [hw2] at hfl2 hi2
            simp only at hfl1 hi1 hfl2 hi2
            have HI1 := Lib.hid hi1
            have HI2 := Lib.hid hi2
            have HW1 := Lib.hid hw1
            have HWB := Lib.hid hw2
            clear hw1 hw2 hi1 hi2
            obtain ⟨B13, hB13⟩ : ∃ B, w'.heap.size = B := ⟨_, rfl⟩
            rw [hB13] at C13 HBB ⊢
            clear hB13
            generalize a' = a24 at *
            generalize cap' = c24 at *
            generalize w'.alloc (.cells #[.slice a24 n24 c24] 36) = w2 at *
            refine wp_region_each3 (ruV w.heap.size B13 a n c g a24 n24 c24 p1 p2 l1 l2) (fun W => But1 (w.heap.size + 2) w2 W ∧ HBx W (w.heap.size + 2)) (hR 0 12) ruD [77, 78, 79, 80, 81, 82, 83, 84, 85, 86, 87, 88, 5, 6] (by kernel_rfl) (by kernel_rfl) (by kernel_rfl) ⟨But1.drewN (But1.refl _ w2) 1, (hbx_of HBX2.out)⟩
              (fun i j oi oj v us A B hoi hoj hij hw hSA hr hv => ru_st _ _ _ _ _ _ _ _ _ _ _ _ _ hij hr hv) ?hgd
              ⟨?_, ?_, ?_, ?_, ?_, ?_, ?_, ?_, ?_, ?_, ?_, ?_, ?_, ?_, ?_, trivial⟩ ?hend
            case hgd =>
              intro i o g b hoi hog v us w hv
              have hi : i < 15 := (Array.getElem?_eq_some_iff.1 hoi).1
              have hc : i = 0 ∨ i = 1 ∨ i = 2 ∨ i = 3 ∨ i = 4 ∨ i = 5 ∨ i = 6 ∨ i = 7 ∨ i = 8 ∨ i = 9 ∨ i = 10 ∨ i = 11 ∨ i = 12 ∨ i = 13 ∨ i = 14 := by omega
              rcases hc with rfl | rfl | rfl | rfl | rfl | rfl | rfl | rfl | rfl | rfl | rfl | rfl | rfl | rfl | rfl
              · cases hoi; cases hog
              · cases hoi; cases hog
              · cases hoi; cases hog
              · cases hoi; cases hog
              · cases hoi; cases hog
              · cases hoi; cases hog
              · cases hoi; cases hog
              · cases hoi; cases hog
              · cases hoi; cases hog
              · cases hoi; cases hog
              · cases hoi; cases hog
              · cases hoi; cases hog
              · cases hoi; cases hog
              · cases hoi; cases hog
              · cases hoi; cases hog
            case refine_1 =>
              intro a' w9 hS h0 hd
              have e12 : a'.tmps[12]?.getD undef = .pointer (some ⟨B13, 0, none⟩) := evG (h0 12 (by kernel_rfl))
              have c0 := (hS.1.cell (cell_lt C13.out) (by show B13 ≠ _; have := HBB.out; omega)).trans C13.out
              refine Does2.value (.agg #[.slice a24 n24 c24]) (w' := w9) ?_ ⟨rfl, hS, hR_refl _ _⟩
              clear hS h0 hd
              go_simp
            case refine_2 =>
              intro a' w9 hS h0 hd
              have e3 : a'.tmps[3]?.getD undef = .pointer (some ⟨w.heap.size + 1, 0, none⟩) := evG (h0 3 (by kernel_rfl))
              refine Does2.value (.pointer (some ⟨w.heap.size + 1, 1, none⟩)) (w' := w9) ?_ ⟨rfl, hS, hR_refl _ _⟩
              clear hS h0 hd
              go_simp
            case refine_3 =>
              intro a' w9 hS h0 hd
              have e78 : a'.tmps[78]?.getD undef = .pointer (some ⟨w.heap.size + 1, 1, none⟩) := evG (hd 1 List.mem_cons_self)
              have c0 := (hS.1.cell (cell_lt CG.out) (by show w.heap.size + 1 ≠ _; omega)).trans CG.out
              refine Does2.value (.int .u32 g) (w' := w9) ?_ ⟨rfl, hS, hR_refl _ _⟩
              clear hS h0 hd
              go_simp
            case refine_4 =>
              intro a' w9 hS h0 hd
              have e2 : a'.tmps[2]?.getD undef = .pointer (some ⟨w.heap.size, 0, none⟩) := evG (h0 2 (by kernel_rfl))
              have c0 := (hS.1.cell (cell_lt CH2.out) (by show w.heap.size ≠ _; omega)).trans CH2.out
              refine Does2.value (.agg #[.slice a n c]) (w' := w9) ?_ ⟨rfl, hS, hR_refl _ _⟩
              clear hS h0 hd
              go_simp
            case refine_5 =>
              intro a' w9 hS h0 hd
              have e3 : a'.tmps[3]?.getD undef = .pointer (some ⟨w.heap.size + 1, 0, none⟩) := evG (h0 3 (by kernel_rfl))
              refine Does2.value (.pointer (some ⟨w.heap.size + 1, 1, none⟩)) (w' := w9) ?_ ⟨rfl, hS, hR_refl _ _⟩
              clear hS h0 hd
              go_simp
            case refine_6 =>
              intro a' w9 hS h0 hd
              have e81 : a'.tmps[81]?.getD undef = .pointer (some ⟨w.heap.size + 1, 1, none⟩) := evG (hd 4 List.mem_cons_self)
              have c0 := (hS.1.cell (cell_lt CG.out) (by show w.heap.size + 1 ≠ _; omega)).trans CG.out
              refine Does2.value (.int .u32 g) (w' := w9) ?_ ⟨rfl, hS, hR_refl _ _⟩
              clear hS h0 hd
              go_simp
            case refine_7 =>
              intro a' w9 hS h0 hd
              have e80 : a'.tmps[80]?.getD undef = .agg #[.slice a n c] := evG (hd 3 List.mem_cons_self)
              have e82 : a'.tmps[82]?.getD undef = .int .u32 g := evG (hd 5 (List.mem_cons_of_mem _ List.mem_cons_self))
              refine Does2.call 33 #[.agg #[.slice a n c], .int .u32 g] (w' := w9) ?_ ((rWantsH a n c ss g w9 HX.out HFI.out (HSK2.out.tm (hbut HBX2.out hS.1))).mono ?_)
              · clear hS h0 hd
                go_simp
              · rw [HW1.out]
                rintro e w8 ⟨⟨a8, c8, rfl, hA8, hf8⟩, hb8⟩
                exact ⟨_, rfl, ⟨a8, c8, rfl, hA8⟩, ⟨hS.1.trans (But1.of_below hb8), hboxB hb8 hS.2⟩, hR_below hb8⟩
            case refine_8 =>
              intro a' w9 hS h0 hd
              have e12 : a'.tmps[12]?.getD undef = .pointer (some ⟨B13, 0, none⟩) := evG (h0 12 (by kernel_rfl))
              have c0 := (hS.1.cell (cell_lt C13.out) (by show B13 ≠ _; have := HBB.out; omega)).trans C13.out
              refine Does2.value (.agg #[.slice a24 n24 c24]) (w' := w9) ?_ ⟨rfl, hS, hR_refl _ _⟩
              clear hS h0 hd
              go_simp
            case refine_9 =>
              intro a' w9 hS h0 hd
              have e3 : a'.tmps[3]?.getD undef = .pointer (some ⟨w.heap.size + 1, 0, none⟩) := evG (h0 3 (by kernel_rfl))
              refine Does2.value (.pointer (some ⟨w.heap.size + 1, 1, none⟩)) (w' := w9) ?_ ⟨rfl, hS, hR_refl _ _⟩
              clear hS h0 hd
              go_simp
            case refine_10 =>
              intro a' w9 hS h0 hd
              have e85 : a'.tmps[85]?.getD undef = .pointer (some ⟨w.heap.size + 1, 1, none⟩) := evG (hd 8 List.mem_cons_self)
              have c0 := (hS.1.cell (cell_lt CG.out) (by show w.heap.size + 1 ≠ _; omega)).trans CG.out
              refine Does2.value (.int .u32 g) (w' := w9) ?_ ⟨rfl, hS, hR_refl _ _⟩
              clear hS h0 hd
              go_simp
            case refine_11 =>
              intro a' w9 hS h0 hd
              have e84 : a'.tmps[84]?.getD undef = .agg #[.slice a24 n24 c24] := evG (hd 7 List.mem_cons_self)
              have e86 : a'.tmps[86]?.getD undef = .int .u32 g := evG (hd 9 (List.mem_cons_of_mem _ List.mem_cons_self))
              refine Does2.call 33 #[.agg #[.slice a24 n24 c24], .int .u32 g] (w' := w9) ?_ ((rWantsH a24 n24 c24 ss24 g w9 HN24.out HF24.out (H24.out.tm (hbut HBX2.out hS.1))).mono ?_)
              · clear hS h0 hd
                go_simp
              · rw [HWB.out]
                rintro e w8 ⟨⟨a8, c8, rfl, hA8, hf8⟩, hb8⟩
                exact ⟨_, rfl, ⟨a8, c8, rfl, hA8, flat_nil' hf8⟩, ⟨hS.1.trans (But1.of_below hb8), hboxB hb8 hS.2⟩, hR_below hb8⟩
            case refine_12 =>
              intro a' w9 hS h0 hd
              have e79 : a'.tmps[79]?.getD undef = .int .u32 g := evG (hd 2 List.mem_cons_self)
              obtain ⟨a29, c29, e83, h29⟩ := hd 6 (List.mem_cons_of_mem _ List.mem_cons_self)
              replace e83 := evG e83
              obtain ⟨a32, c32, e87, h32, n32⟩ := hd 10 (List.mem_cons_of_mem _ (List.mem_cons_of_mem _ List.mem_cons_self))
              replace e87 := evG e87
              refine Does2.call 27 #[.int .u32 g, .agg #[.bool p1, .slice a29 l1.length c29], .agg #[.bool p2, .slice a32 l2.length c32]] (w' := w9) ?_ ((rChange g p1 p2 a29 a32 _ _ c29 c32 l1 l2 w9 rfl rfl (by omega) (by omega) HI1.out HI2.out h29 h32 n32).mono ?_)
              · clear hS h0 hd h29 h32
                go_simp
              · rintro e w8 ⟨⟨a8, c8, rs8, rfl, m8, k8, n8⟩, hb8⟩
                exact ⟨_, rfl, ⟨a8, c8, rs8, rfl, m8, k8, n8⟩, ⟨hS.1.trans (But1.of_below hb8), hboxB hb8 hS.2⟩, hR_below hb8⟩
            case refine_13 =>
              intro a' w9 hS h0 hd
              have e4 : a'.tmps[4]?.getD undef = .pointer (some ⟨w.heap.size + 2, 0, none⟩) := evG (h0 4 (by kernel_rfl))
              have e77 : a'.tmps[77]?.getD undef = .agg #[.slice a24 n24 c24] := evG (hd 0 List.mem_cons_self)
              obtain ⟨x, y, z, hbx⟩ := hS.2
              have hc := HBx.cell hbx
              have hf := HBx.froz hbx
              refine Does2.skip (w' := w9.setCell ⟨w.heap.size + 2, 0, none⟩ (.slice a24 n24 c24)) ?_ ⟨HBx.set hbx _, ⟨hS.1.trans (But1.set _ _ _ _), ⟨_, _, _, HBx.set hbx _⟩⟩, hR_set hbx ⟨x, y, z, hbx⟩ _ _ _⟩
              clear hS h0 hd hbx
              go_simp
            case refine_14 =>
              intro a' w9 hS h0 hd
              obtain ⟨b33, d33, rs33, e88, m33, k33, n33⟩ := hd 11 List.mem_cons_self
              replace e88 := evG e88
              have q5 : a'.eval (.tmp 88) = .slice b33 (List.length rs33) d33 := by simp [Act.eval, e88]
              refine Does2.value (.slice b33 (List.length rs33) d33) (w' := w9) ?_ ⟨?_, hS, hR_refl _ _⟩
              · clear hS h0 hd k33 q5
                go_simp
              · show [a'.eval (.tmp 88)] = [Value.slice b33 (List.length rs33) d33]
                rw [q5]
            case refine_15 =>
              intro a' w9 hS h0 hd
              refine Does2.value (.int .i64 0) (w' := w9) ?_ ⟨rfl, hS, hR_refl _ _⟩
              clear hS h0 hd
              go_simp
            case hend =>
              intro f2 w3 hS hv
              obtain ⟨b33, d33, rs33, v33, m33, k33, n33⟩ := hv 11 (by decide)
              replace v33 : f2 88 = .slice b33 (List.length rs33) d33 := v33
              have v11 : [f2 88] = [f2 5] := hv 13 (by decide)
              rw [v33] at v11
              replace v11 : f2 5 = .slice b33 (List.length rs33) d33 := by simpa using v11.symm
              have v12 := hv 14 (by decide)
              replace v12 : f2 6 = .int .i64 0 := v12
              have h9 := hv 12 (by decide)
              replace h9 : w3.heap[w.heap.size + 2]? = some (.cells #[.slice a24 n24 c24] 36 (0, 0)) := h9
              simp only [putAll, Act.put, List.setIfInBounds_toArray, List.set_cons_zero, List.set_cons_succ, v11, v12]
              have HL := Lib.hid (load_host h9)
              have M33 := Lib.hid m33
              have K33 := Lib.hid k33
              have N33 := Lib.hid n33
              have HS3 := Lib.hid hS.1
              clear hS hv v33 v11 v12 h9 m33 k33 n33
              go_wp2_with fail
              refine ret_cell3 (p := 4) (u := 5) (v := 6) rfl rfl rfl HL.out ?_
              rw [HDY.out.1, HDY.out.2.1, HDY.out.2.2, HW1.out, HWB.out]
              have hn24 := HN24.out
              subst hn24
              exact ⟨⟨a24, c24, ss24, b33, d33, rs33, rfl, ⟨rfl, H24.out.tm (hbut HBX2.out HS3.out)⟩, M33.out, K33.out⟩, HW2.out.trans (HS3.out.below (by omega) (by have := HW2.out.size; omega))⟩
        · have HPL3 : Hid (putL ss ⟨id, g, ⟨ex, srcs, fa, fc⟩⟩ = lst) := Lib.hid (by simpa using HPL2)
          clear HPL2
          have hEND := HEND.out
          have hl33 : (putL ss ⟨id, g, ⟨ex, srcs, fa, fc⟩⟩).length = ln := by rw [HPL3.out]; have := HLN.out; simp [this]
          rw [hl33] at hEND
          have HN24 := Lib.hid hl33
          by_cases h32 : 32 < ln
          · have HE : Hid (putE ss ⟨id, g, ⟨ex, srcs, fa, fc⟩⟩ = 7) := Lib.hid (hEND.1 h32)
            have h32a : (32 : Int) < ((ln : Nat) : Int) := by omega
            have h32b : (32 : Int) < ((ln : Int)) := by omega
            clear hl33 hEND h32
            have cx := (HB.out.cell (cell_lt C0.out)).trans C0.out
            have HBT := Lib.hid (HB.out.trans (Below.refl _ _))
            obtain ⟨⟨r0, r1⟩, hl2, htm, hb9, -⟩ := fin_host ((HBT.out.block _ (Array.getElem?_eq_some_iff.1 HBX.out).1).trans HBX.out) (show Below (w.heap.size + 2) w1 (wr) from (HB1.out.trans (HBT.out.mono HB1.out.size)).mono (by have := HS1.out; omega)) a n c
            have HL2 := Lib.hid hl2
            have HTM := Lib.hid htm
            have HB9 := Lib.hid (HW1.out.trans (hb9.mono (by omega)))
            clear hl2 htm hb9
            go_wp2_with fail
            refine ret_cell3 (p := 4) (u := 5) (v := 6) rfl rfl rfl HL2.out ?_
            rw [(putH_no (by rw [HE.out]; decide)).1, (putH_no (by rw [HE.out]; decide)).2, HE.out]
            obtain rfl := HX.out
            exact ⟨⟨_, c, ss, none, 0, [], rfl, ⟨rfl, (HSK.out.below HBT.out).tm HTM.out⟩, rfl, Rcs.nil _ _⟩, HB9.out⟩
          · have HDY := Lib.hid (put_yes3 (hEND.2.1 h32))
            have h32a : decide ((32 : Int) < ((ln : Nat) : Int)) = false := decide_eq_false (by omega)
            have h32b : decide ((32 : Int) < ((ln : Int))) = false := decide_eq_false (by omega)
            have hn33 := hEND.2.2
            clear hl33 hEND h32
            go_wp2_with fail
            have HO3 : Hid (wr.ownsRow wa.heap.size 38 4 (.slice a8 (ln) c8) (ln) (sv (putL ss ⟨id, g, ⟨ex, srcs, fa, fc⟩⟩))) := Lib.hid (by rw [HPL3.out]; exact HO2.out)
            have HBZ : Hid (Below wa.heap.size wr wr) := Lib.hid (Below.refl _ _)
            obtain ⟨n24, hn24⟩ : ∃ m, ln = m := ⟨_, rfl⟩
            rw [hn24] at HN24 HO3 hn33 ⊢
            clear hn24
            have hm : ∀ s ∈ putL ss ⟨id, g, ⟨ex, srcs, fa, fc⟩⟩, (FOk wa s.f ∧ 0 ≤ s.g ∧ s.g ≤ 4294967295) ∧ s.f.srcs.length ≤ 16 ∧ Inc s.f.srcs := fun s hs => by
              rcases putL_mem.1 hs with rfl | ⟨hs, -⟩
              · exact ⟨⟨HFO.out, HG.out⟩, HOK.out.2.2⟩
              · exact ⟨HSK.out.mem hs, HFI.out.2 s hs⟩
            have HM := Lib.hid hm
            have HF24 : Hid (FewI (putL ss ⟨id, g, ⟨ex, srcs, fa, fc⟩⟩)) := Lib.hid ⟨by rw [HN24.out]; omega, fun s hs => (hm s hs).2⟩
            clear hm
            obtain ⟨ss24, h24⟩ : ∃ l, putL ss ⟨id, g, ⟨ex, srcs, fa, fc⟩⟩ = l := ⟨_, rfl⟩
            rw [h24] at HO3 HM HF24 HN24 HDY
            clear h24
            have HBT := Lib.hid (HB.out.trans (HBZ.out.mono (by omega)))
            have HK := Lib.hid (own_sks HO3.out HN24.out (fun s hs => ⟨(HM.out s hs).1.1.below HBT.out, (HM.out s hs).1.2⟩))
            have hb4 := bel1 wr (.cells #[.slice a8 n24 c8] 36)
            have C13 := Lib.hid (host_new wr (.slice a8 n24 c8))
            have H24 := Lib.hid (HK.out.below hb4)
            have cc := (HBT.out.cell (cell_lt C0.out)).trans C0.out
            have CH2 := Lib.hid ((hb4.cell (cell_lt cc)).trans cc)
            have cg := (HBT.out.cell (cell_lt S1.out)).trans S1.out
            have CG := Lib.hid ((hb4.cell (cell_lt cg)).trans cg)
            have hbxt := (HBT.out.block _ (Array.getElem?_eq_some_iff.1 HBX.out).1).trans HBX.out
            have HBX2 := Lib.hid ((hb4.block _ (Array.getElem?_eq_some_iff.1 hbxt).1).trans hbxt)
            have hwz := HW1.out.trans ((HB1.out.trans (HBT.out.mono HB1.out.size)).mono HW1.out.size)
            have HW2 := Lib.hid (hwz.trans (hb4.mono hwz.size))
            have HSK2 := Lib.hid ((HSK.out.below HBT.out).below hb4)
            have HBB : Hid (w.heap.size + 3 ≤ wr.heap.size) := Lib.hid (by have := HBZ.out.size; omega)
            clear hb4 cc cg hbxt hwz HO3 HK HBT HBX HSK HW1 HB HBZ
            obtain ⟨⟨p1, l1⟩, hw1⟩ : ∃ p, wants g ss = p := ⟨_, rfl⟩
            obtain ⟨⟨p2, l2⟩, hw2⟩ : ∃ p, wants g ss24 = p := ⟨_, rfl⟩
            have hfl1 := (FewI.lens HFI.out g)
            have hfl2 := (FewI.lens HF24.out g)
            have hi1 := wants_incI HFI.out g
            have hi2 := wants_incI HF24.out g
            rw [hw1] at hfl1 hi1
            rw [hw2] at hfl2 hi2
            simp only at hfl1 hi1 hfl2 hi2
            have HI1 := Lib.hid hi1
            have HI2 := Lib.hid hi2
            have HW1 := Lib.hid hw1
            have HWB := Lib.hid hw2
            clear hw1 hw2 hi1 hi2
            obtain ⟨B13, hB13⟩ : ∃ B, wr.heap.size = B := ⟨_, rfl⟩
            rw [hB13] at C13 HBB ⊢
            clear hB13
            generalize a8 = a24 at *
            generalize c8 = c24 at *
            generalize wr.alloc (.cells #[.slice a24 n24 c24] 36) = w2 at *
            refine wp_region_each3 (ruV w.heap.size B13 a n c g a24 n24 c24 p1 p2 l1 l2) (fun W => But1 (w.heap.size + 2) w2 W ∧ HBx W (w.heap.size + 2)) (hR 0 12) ruD [77, 78, 79, 80, 81, 82, 83, 84, 85, 86, 87, 88, 5, 6] (by kernel_rfl) (by kernel_rfl) (by kernel_rfl) ⟨But1.drewN (But1.refl _ w2) 1, (hbx_of HBX2.out)⟩
              (fun i j oi oj v us A B hoi hoj hij hw hSA hr hv => ru_st _ _ _ _ _ _ _ _ _ _ _ _ _ hij hr hv) ?hgd
              ⟨?_, ?_, ?_, ?_, ?_, ?_, ?_, ?_, ?_, ?_, ?_, ?_, ?_, ?_, ?_, trivial⟩ ?hend
            case hgd =>
              intro i o g b hoi hog v us w hv
              have hi : i < 15 := (Array.getElem?_eq_some_iff.1 hoi).1
              have hc : i = 0 ∨ i = 1 ∨ i = 2 ∨ i = 3 ∨ i = 4 ∨ i = 5 ∨ i = 6 ∨ i = 7 ∨ i = 8 ∨ i = 9 ∨ i = 10 ∨ i = 11 ∨ i = 12 ∨ i = 13 ∨ i = 14 := by omega
              rcases hc with rfl | rfl | rfl | rfl | rfl | rfl | rfl | rfl | rfl | rfl | rfl | rfl | rfl | rfl | rfl
              · cases hoi; cases hog
              · cases hoi; cases hog
              · cases hoi; cases hog
              · cases hoi; cases hog
              · cases hoi; cases hog
              · cases hoi; cases hog
              · cases hoi; cases hog
              · cases hoi; cases hog
              · cases hoi; cases hog
              · cases hoi; cases hog
              · cases hoi; cases hog
              · cases hoi; cases hog
              · cases hoi; cases hog
              · cases hoi; cases hog
              · cases hoi; cases hog
            case refine_1 =>
              intro a' w9 hS h0 hd
              have e12 : a'.tmps[12]?.getD undef = .pointer (some ⟨B13, 0, none⟩) := evG (h0 12 (by kernel_rfl))
              have c0 := (hS.1.cell (cell_lt C13.out) (by show B13 ≠ _; have := HBB.out; omega)).trans C13.out
              refine Does2.value (.agg #[.slice a24 n24 c24]) (w' := w9) ?_ ⟨rfl, hS, hR_refl _ _⟩
              clear hS h0 hd
              go_simp
            case refine_2 =>
              intro a' w9 hS h0 hd
              have e3 : a'.tmps[3]?.getD undef = .pointer (some ⟨w.heap.size + 1, 0, none⟩) := evG (h0 3 (by kernel_rfl))
              refine Does2.value (.pointer (some ⟨w.heap.size + 1, 1, none⟩)) (w' := w9) ?_ ⟨rfl, hS, hR_refl _ _⟩
              clear hS h0 hd
              go_simp
            case refine_3 =>
              intro a' w9 hS h0 hd
              have e78 : a'.tmps[78]?.getD undef = .pointer (some ⟨w.heap.size + 1, 1, none⟩) := evG (hd 1 List.mem_cons_self)
              have c0 := (hS.1.cell (cell_lt CG.out) (by show w.heap.size + 1 ≠ _; omega)).trans CG.out
              refine Does2.value (.int .u32 g) (w' := w9) ?_ ⟨rfl, hS, hR_refl _ _⟩
              clear hS h0 hd
              go_simp
            case refine_4 =>
              intro a' w9 hS h0 hd
              have e2 : a'.tmps[2]?.getD undef = .pointer (some ⟨w.heap.size, 0, none⟩) := evG (h0 2 (by kernel_rfl))
              have c0 := (hS.1.cell (cell_lt CH2.out) (by show w.heap.size ≠ _; omega)).trans CH2.out
              refine Does2.value (.agg #[.slice a n c]) (w' := w9) ?_ ⟨rfl, hS, hR_refl _ _⟩
              clear hS h0 hd
              go_simp
            case refine_5 =>
              intro a' w9 hS h0 hd
              have e3 : a'.tmps[3]?.getD undef = .pointer (some ⟨w.heap.size + 1, 0, none⟩) := evG (h0 3 (by kernel_rfl))
              refine Does2.value (.pointer (some ⟨w.heap.size + 1, 1, none⟩)) (w' := w9) ?_ ⟨rfl, hS, hR_refl _ _⟩
              clear hS h0 hd
              go_simp
            case refine_6 =>
              intro a' w9 hS h0 hd
              have e81 : a'.tmps[81]?.getD undef = .pointer (some ⟨w.heap.size + 1, 1, none⟩) := evG (hd 4 List.mem_cons_self)
              have c0 := (hS.1.cell (cell_lt CG.out) (by show w.heap.size + 1 ≠ _; omega)).trans CG.out
              refine Does2.value (.int .u32 g) (w' := w9) ?_ ⟨rfl, hS, hR_refl _ _⟩
              clear hS h0 hd
              go_simp
            case refine_7 =>
              intro a' w9 hS h0 hd
              have e80 : a'.tmps[80]?.getD undef = .agg #[.slice a n c] := evG (hd 3 List.mem_cons_self)
              have e82 : a'.tmps[82]?.getD undef = .int .u32 g := evG (hd 5 (List.mem_cons_of_mem _ List.mem_cons_self))
              refine Does2.call 33 #[.agg #[.slice a n c], .int .u32 g] (w' := w9) ?_ ((rWantsH a n c ss g w9 HX.out HFI.out (HSK2.out.tm (hbut HBX2.out hS.1))).mono ?_)
              · clear hS h0 hd
                go_simp
              · rw [HW1.out]
                rintro e w8 ⟨⟨a8, c8, rfl, hA8, hf8⟩, hb8⟩
                exact ⟨_, rfl, ⟨a8, c8, rfl, hA8⟩, ⟨hS.1.trans (But1.of_below hb8), hboxB hb8 hS.2⟩, hR_below hb8⟩
            case refine_8 =>
              intro a' w9 hS h0 hd
              have e12 : a'.tmps[12]?.getD undef = .pointer (some ⟨B13, 0, none⟩) := evG (h0 12 (by kernel_rfl))
              have c0 := (hS.1.cell (cell_lt C13.out) (by show B13 ≠ _; have := HBB.out; omega)).trans C13.out
              refine Does2.value (.agg #[.slice a24 n24 c24]) (w' := w9) ?_ ⟨rfl, hS, hR_refl _ _⟩
              clear hS h0 hd
              go_simp
            case refine_9 =>
              intro a' w9 hS h0 hd
              have e3 : a'.tmps[3]?.getD undef = .pointer (some ⟨w.heap.size + 1, 0, none⟩) := evG (h0 3 (by kernel_rfl))
              refine Does2.value (.pointer (some ⟨w.heap.size + 1, 1, none⟩)) (w' := w9) ?_ ⟨rfl, hS, hR_refl _ _⟩
              clear hS h0 hd
              go_simp
            case refine_10 =>
              intro a' w9 hS h0 hd
              have e85 : a'.tmps[85]?.getD undef = .pointer (some ⟨w.heap.size + 1, 1, none⟩) := evG (hd 8 List.mem_cons_self)
              have c0 := (hS.1.cell (cell_lt CG.out) (by show w.heap.size + 1 ≠ _; omega)).trans CG.out
              refine Does2.value (.int .u32 g) (w' := w9) ?_ ⟨rfl, hS, hR_refl _ _⟩
              clear hS h0 hd
              go_simp
            case refine_11 =>
              intro a' w9 hS h0 hd
              have e84 : a'.tmps[84]?.getD undef = .agg #[.slice a24 n24 c24] := evG (hd 7 List.mem_cons_self)
              have e86 : a'.tmps[86]?.getD undef = .int .u32 g := evG (hd 9 (List.mem_cons_of_mem _ List.mem_cons_self))
              refine Does2.call 33 #[.agg #[.slice a24 n24 c24], .int .u32 g] (w' := w9) ?_ ((rWantsH a24 n24 c24 ss24 g w9 HN24.out HF24.out (H24.out.tm (hbut HBX2.out hS.1))).mono ?_)
              · clear hS h0 hd
                go_simp
              · rw [HWB.out]
                rintro e w8 ⟨⟨a8, c8, rfl, hA8, hf8⟩, hb8⟩
                exact ⟨_, rfl, ⟨a8, c8, rfl, hA8, flat_nil' hf8⟩, ⟨hS.1.trans (But1.of_below hb8), hboxB hb8 hS.2⟩, hR_below hb8⟩
            case refine_12 =>
              intro a' w9 hS h0 hd
              have e79 : a'.tmps[79]?.getD undef = .int .u32 g := evG (hd 2 List.mem_cons_self)
              obtain ⟨a29, c29, e83, h29⟩ := hd 6 (List.mem_cons_of_mem _ List.mem_cons_self)
              replace e83 := evG e83
              obtain ⟨a32, c32, e87, h32, n32⟩ := hd 10 (List.mem_cons_of_mem _ (List.mem_cons_of_mem _ List.mem_cons_self))
              replace e87 := evG e87
              refine Does2.call 27 #[.int .u32 g, .agg #[.bool p1, .slice a29 l1.length c29], .agg #[.bool p2, .slice a32 l2.length c32]] (w' := w9) ?_ ((rChange g p1 p2 a29 a32 _ _ c29 c32 l1 l2 w9 rfl rfl (by omega) (by omega) HI1.out HI2.out h29 h32 n32).mono ?_)
              · clear hS h0 hd h29 h32
                go_simp
              · rintro e w8 ⟨⟨a8, c8, rs8, rfl, m8, k8, n8⟩, hb8⟩
                exact ⟨_, rfl, ⟨a8, c8, rs8, rfl, m8, k8, n8⟩, ⟨hS.1.trans (But1.of_below hb8), hboxB hb8 hS.2⟩, hR_below hb8⟩
            case refine_13 =>
              intro a' w9 hS h0 hd
              have e4 : a'.tmps[4]?.getD undef = .pointer (some ⟨w.heap.size + 2, 0, none⟩) := evG (h0 4 (by kernel_rfl))
              have e77 : a'.tmps[77]?.getD undef = .agg #[.slice a24 n24 c24] := evG (hd 0 List.mem_cons_self)
              obtain ⟨x, y, z, hbx⟩ := hS.2
              have hc := HBx.cell hbx
              have hf := HBx.froz hbx
              refine Does2.skip (w' := w9.setCell ⟨w.heap.size + 2, 0, none⟩ (.slice a24 n24 c24)) ?_ ⟨HBx.set hbx _, ⟨hS.1.trans (But1.set _ _ _ _), ⟨_, _, _, HBx.set hbx _⟩⟩, hR_set hbx ⟨x, y, z, hbx⟩ _ _ _⟩
              clear hS h0 hd hbx
              go_simp
            case refine_14 =>
              intro a' w9 hS h0 hd
              obtain ⟨b33, d33, rs33, e88, m33, k33, n33⟩ := hd 11 List.mem_cons_self
              replace e88 := evG e88
              have q5 : a'.eval (.tmp 88) = .slice b33 (List.length rs33) d33 := by simp [Act.eval, e88]
              refine Does2.value (.slice b33 (List.length rs33) d33) (w' := w9) ?_ ⟨?_, hS, hR_refl _ _⟩
              · clear hS h0 hd k33 q5
                go_simp
              · show [a'.eval (.tmp 88)] = [Value.slice b33 (List.length rs33) d33]
                rw [q5]
            case refine_15 =>
              intro a' w9 hS h0 hd
              refine Does2.value (.int .i64 0) (w' := w9) ?_ ⟨rfl, hS, hR_refl _ _⟩
              clear hS h0 hd
              go_simp
            case hend =>
              intro f2 w3 hS hv
              obtain ⟨b33, d33, rs33, v33, m33, k33, n33⟩ := hv 11 (by decide)
              replace v33 : f2 88 = .slice b33 (List.length rs33) d33 := v33
              have v11 : [f2 88] = [f2 5] := hv 13 (by decide)
              rw [v33] at v11
              replace v11 : f2 5 = .slice b33 (List.length rs33) d33 := by simpa using v11.symm
              have v12 := hv 14 (by decide)
              replace v12 : f2 6 = .int .i64 0 := v12
              have h9 := hv 12 (by decide)
              replace h9 : w3.heap[w.heap.size + 2]? = some (.cells #[.slice a24 n24 c24] 36 (0, 0)) := h9
              simp only [putAll, Act.put, List.setIfInBounds_toArray, List.set_cons_zero, List.set_cons_succ, v11, v12]
              have HL := Lib.hid (load_host h9)
              have M33 := Lib.hid m33
              have K33 := Lib.hid k33
              have N33 := Lib.hid n33
              have HS3 := Lib.hid hS.1
              clear hS hv v33 v11 v12 h9 m33 k33 n33
              go_wp2_with fail
              refine ret_cell3 (p := 4) (u := 5) (v := 6) rfl rfl rfl HL.out ?_
              rw [HDY.out.1, HDY.out.2.1, HDY.out.2.2, HW1.out, HWB.out]
              have hn24 := HN24.out
              subst hn24
              exact ⟨⟨a24, c24, ss24, b33, d33, rs33, rfl, ⟨rfl, H24.out.tm (hbut HBX2.out HS3.out)⟩, M33.out, K33.out⟩, HW2.out.trans (HS3.out.below (by omega) (by have := HW2.out.size; omega))⟩
  · rw [decide_eq_false hok]
    have HE : Hid (putE ss ⟨id, g, ⟨ex, srcs, fa, fc⟩⟩ = 1) := Lib.hid (put_no hok)
    clear hok
    obtain ⟨⟨r0, r1⟩, hl2, htm, hb9, -⟩ := fin_host (HBX.out) (show Below (w.heap.size + 2) w1 (wa) from HB1.out.mono (by have := HS1.out; omega)) a n c
    have HL2 := Lib.hid hl2
    have HTM := Lib.hid htm
    have HB9 := Lib.hid (HW1.out.trans (hb9.mono (by omega)))
    clear hl2 htm hb9
    go_wp2_with fail
    refine ret_cell3 (p := 4) (u := 5) (v := 6) rfl rfl rfl HL2.out ?_
    rw [(putH_no (by rw [HE.out]; decide)).1, (putH_no (by rw [HE.out]; decide)).2, HE.out]
    obtain rfl := HX.out
    exact ⟨⟨_, c, ss, none, 0, [], rfl, ⟨rfl, HSK.out.tm HTM.out⟩, rfl, Rcs.nil _ _⟩, HB9.out⟩
end Go.Proofs.Ytmcbbccbonadjaa
