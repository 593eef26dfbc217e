/- The document's own rows of addresses (stolonref05.rows). -/
import Derived.Test.YtmcnanoamgkljaaQ0
import Derived.Test.YtmcnanoamgkljaaQ1
import Derived.Test.YtmcnanoamgkljaaQ2
import Derived.Test.YtmcnanoamgkljaaQ3
import Derived.Test.YtmcnanoamgkljaaQ4
namespace Go.Proofs.Ytmcnanoamgkljaa
set_option linter.unusedVariables false
open Go.RowKit

theorem rBytes4 (a : Int) (w : World) (h0 : 0 ≤ a) (h1 : a ≤ 4294967295) :
    Calls Try.prog 28 #[.int .u32 a] w fun e w' => e = .returned (.slice (some ⟨w.heap.size, 0, none⟩) 4 4) ∧ w.alloc (bytes4 a) = w' := rBytes a w h0 h1
theorem bs_two' (w : World) (n : Nat) (h : n ≤ 65535) : Bs (w.alloc (.cells #[.int .u8 ((n : Int) / 256), .int .u8 ((n : Int) % 256)] 5)) (some ⟨w.heap.size, 0, none⟩) (two n) := by
  have e : two n = [(n : Int) / 256, (n : Int) % 256] := by unfold two; rw [Int.emod_eq_of_lt (a := (n : Int) / 256) (by omega) (by omega)]
  rw [e]
  exact (Ob.of_heap (xs := [(n : Int) / 256, (n : Int) % 256]) (Go.Deep.blk_alloc_new _ _)).bs (isB_cons.2 ⟨by omega, isB_cons.2 ⟨by omega, isB_nil⟩⟩)

/-- Bytes in a block that stays. -/
theorem stay_bs {w w' : World} {o : Obj} {a1 a' a2 : Option Addr} {ys : List Int} (h : Bs w a2 ys) (hne : ∀ q o, a2 = some ⟨q, o, none⟩ → a1 ≠ some ⟨q, 0, none⟩) (hst : ∀ q, q < (w.alloc o).heap.size → a1 ≠ some ⟨q, 0, none⟩ → w'.heap[q]? = (w.alloc o).heap[q]? ∧ a' ≠ some ⟨q, 0, none⟩) : Bs w' a2 ys := by
  refine ⟨?_, h.2⟩
  rcases h.1 with e | ⟨b, off, e, hc⟩
  · exact .inl e
  · refine .inr ⟨b, off, e, fun k hk => ?_⟩
    have hlt := cell_lt (hc k hk)
    simp only at hlt
    have h1 := (hst b (by simp; omega) (hne b off e)).1
    rw [World.cell?_of_block (a := ⟨b, off + k, none⟩) (h1.trans (hp hlt))]
    exact hc k hk
set_option maxHeartbeats 2000000 in
theorem rRowsOf (w0 : World) (a1 a2 a : Option Addr) (n cap m c2 c B : Nat) (xs ys l : List Int) (w : World) (ho : Ow w B a1 n cap xs) (hB : B ≤ w.heap.size) (hy : ys.length = m) (hb : Bs w a2 ys) (hnil : a2 = none → m = 0 ∧ c2 = 0) (hne : ∀ q o, a2 = some ⟨q, o, none⟩ → a1 ≠ some ⟨q, 0, none⟩)
    (hn : l.length ≤ 64) (ha : As w0 a l) (hb0 : Below w0.heap.size w0 w) (hB0 : w0.heap.size ≤ B) (hsz : n + m ≤ 100000) :
    Calls Try.prog 27 #[.slice a1 n cap, .slice a2 m c2, .slice a l.length c] w fun e w' => ∃ a' cap', e = .returned (.slice a' (n + 2 + m + 4 * l.length) cap') ∧ Ow w' B a' (n + 2 + m + 4 * l.length) cap' (xs ++ two l.length ++ ys ++ ads l) ∧ Below B w w' := by
  obtain ⟨u, hu⟩ : ∃ u, u = l.length := ⟨_, rfl⟩
  have HU := Lib.hid hu
  have HO := Lib.hid ho
  have HY := Lib.hid hy
  have HB := Lib.hid hb
  have HNL := Lib.hid hnil
  have HNE := Lib.hid hne
  have HA := Lib.hid ha
  have HB0 := Lib.hid hb0
  rw [← hu] at hn ⊢
  clear hu ho hy hb hnil hne ha hb0
  have IB := Lib.hid HB.out.2
  go_enter Try.func27, Try.ntmps27
  go_wp2_with (first
    | ((with_reducible refine wpList_app_st rfl (.tmp 8) (.tmp 17) rfl B a1 n cap xs rfl (HO.out.alloc _) (some ⟨w.heap.size, 0, none⟩) 2 2 (two u) rfl rfl (bs_two' _ _ (by omega)) (fun e => by cases e) (by omega) (Nat.le_trans hB ((Below.refl _ w).alloc hB _).size) ?_); intro a3 cap3 w3 how3 hb3 hst3; have HB3 := Lib.hid (((Below.refl B w).alloc hB _).trans hb3.out); have HBY : Hid (Bs w3 a2 ys) := Lib.hid (stay_bs HB.out HNE.out hst3.out))
    | ((with_reducible refine wpList_app_st rfl (.tmp 19) (.tmp 20) rfl B a3 (n + 2) cap3 (xs ++ two u) rfl how3.out a2 m c2 ys rfl HY.out HBY.out HNL.out (by omega) (Nat.le_trans hB HB3.out.size) ?_); intro a4 cap4 w4 how4 hb4 hst4; have HB4 := Lib.hid (HB3.out.trans hb4.out)))
  go_loopw [0, 7] (fun b i wr => ∃ (k : Nat) (a' : Option Addr) (cap' : Nat), k ≤ u ∧ i = .int .i64 k ∧ b = .slice a' (n + 2 + m + 4 * k) cap' ∧ Ow wr B a' (n + 2 + m + 4 * k) cap' (xs ++ two u ++ ys ++ ads (l.take k)) ∧ Below B w wr) (fun _ i _ => u - (intOf i).toNat)
  case atStart => exact ⟨0, a4, cap4, by omega, rfl, rfl, by simpa [ads] using how4.out, HB4.out⟩
  case round =>
    obtain ⟨k, a5, cap5, hk, rfl, rfl, how, hbel⟩ := hrel
    have HO5 := Lib.hid how
    have HB5 := Lib.hid hbel
    clear how hbel
    by_cases hlt : k < u
    · have hA := HA.out.below (HB0.out.trans (HB5.out.mono hB0))
      have hbd := hA.2 k (by have := HU.out; omega)
      rcases hA.1 with e | ⟨b, off, rfl, hc⟩
      · have := HU.out; rw [e] at this; simp at this; omega
      have hck := hc k (by have := HU.out; omega)
      clear hA hc
      have HE := Lib.hid (ads_take_succ (l := l) (k := k) (by have := HU.out; omega))
      obtain ⟨x, hxx⟩ : ∃ x, x = l.getD k 0 := ⟨_, rfl⟩
      rw [← hxx] at hck hbd
      have HXX := Lib.hid hxx
      clear hxx
      have i1 : (0 : Int) ≤ (k : Int) := by omega
      have i2 : (k : Int) < (u : Int) := by omega
      obtain ⟨x0, x1⟩ := hbd
      go_wp2_with (first
        | (go_at_call 28; refine (rBytes4 x _ x0 x1).mono ?_; rintro e w1 ⟨rfl, rfl⟩)
        | ((with_reducible refine wpList_app_st rfl (.tmp 28) (.tmp 33) rfl B a5 (n + 2 + m + 4 * k) cap5 (xs ++ two u ++ ys ++ ads (l.take k)) rfl (HO5.out.alloc _) (some ⟨wr.heap.size, 0, none⟩) 4 4 (l4 x) rfl rfl (bs_four _ _ ⟨x0, x1⟩) (fun e => by cases e) (by omega) (Nat.le_trans hB (HB5.out.alloc (Nat.le_trans hB HB5.out.size) _).size) ?_); intro a6 cap6 w6 how6 hb6 hst6))
      go_roundw
      case rel => exact ⟨k + 1, a6, cap6, by omega, by go_num, rfl, by rw [HE.out, ← HXX.out]; exact ow_eq how6.out rfl (by simp), (HB5.out.alloc (Nat.le_trans hB HB5.out.size) _).trans hb6.out⟩
      case measure => simp [intOf]; omega
    · obtain rfl : k = u := by omega
      go_wp2
      go_ret
      exact ⟨a5, cap5, rfl, by have := HO5.out; rwa [List.take_of_length_le (by have := HU.out; omega)] at this, HB5.out⟩
end Go.Proofs.Ytmcnanoamgkljaa
/- A message's bytes, the document's own answer (stolonref05.Encode). -/
namespace Go.Proofs.Ytmcnanoamgkljaa
set_option linter.unusedVariables false
open Go.RowKit

theorem two_small (n : Nat) (h : n ≤ 255) : two n = [0, (n : Int)] := by
  unfold two
  rw [show (n : Int) / 256 % 256 = 0 by omega, Int.emod_eq_of_lt (by omega) (by omega)]
theorem bs_rep (w : World) (n : Nat) (h : n ≤ 255) : Bs (w.alloc (.cells #[.int .u8 0, .int .u8 0, .int .u8 0, .int .u8 (n : Int)] 5)) (some ⟨w.heap.size, 0, none⟩) ([0, 0] ++ two n) := by
  rw [two_small n h]
  exact (Ob.of_heap (xs := [0, 0, 0, (n : Int)]) (Go.Deep.blk_alloc_new _ _)).bs (isB_cons.2 ⟨by omega, isB_cons.2 ⟨by omega, isB_cons.2 ⟨by omega, isB_cons.2 ⟨by omega, isB_nil⟩⟩⟩⟩)
theorem bs_rep2 (w : World) (o : Obj) (n : Nat) (h : n ≤ 255) : Bs ((w.alloc o).alloc (.cells #[.int .u8 0, .int .u8 0, .int .u8 0, .int .u8 (n : Int)] 5)) (some ⟨w.heap.size + 1, 0, none⟩) ([0, 0] ++ two n) := by
  have := bs_rep (w.alloc o) n h
  rwa [show (w.alloc o).heap.size = w.heap.size + 1 by simp] at this
theorem bs_xy (w : World) (x y : Int) (h : 0 ≤ x ∧ x ≤ 255) (h' : 0 ≤ y ∧ y ≤ 255) : Bs (w.alloc (.cells #[.int .u8 x, .int .u8 y] 5)) (some ⟨w.heap.size, 0, none⟩) [x, y] :=
  (Ob.of_heap (xs := [x, y]) (Go.Deep.blk_alloc_new _ _)).bs (isB_cons.2 ⟨h, isB_cons.2 ⟨h', isB_nil⟩⟩)
theorem bs_nil (w : World) : Bs w none [] := ⟨.inl rfl, fun k h => absurd h (by simp)⟩
theorem rPut2 (a : Option Addr) (n cap : Nat) (xs : List Int) (w : World) (hn : n ≤ 1000000) (hx : xs.length = n) (hb : Bs w a xs) (hk : 4 ≤ n) :
    Calls Try.prog 29 #[.slice a n cap, .int .i64 2] w fun e w' => ∃ g cap', e = .returned (.tuple #[.slice (some ⟨g, 0, none⟩) n cap', .int .i64 0]) ∧ Og w' g (putS xs 2) ∧ w.heap.size ≤ g ∧ Below w.heap.size w w' :=
  rPut_ok a n cap 2 xs w hn hx hb rfl (by omega)

theorem rEncode_no (x : Msg) (sa ra : Option Addr) (sc rc : Nat) (w : World) (h1 : Ms w x sa ra) (hr : right x = false) :
    Calls Try.prog 14 #[.agg #[.int .u8 x.kind, .int .i64 x.ver, .int .u8 x.code, .int .u32 x.grp, .bool x.quiet, .int .u8 x.rob, .int .u8 x.every, .slice sa x.srcs.length sc, .slice ra x.recs.length rc]] w fun e w' => e = .returned (.tuple #[.slice none 0 0, .int .i64 1]) ∧ Below w.heap.size w w' := by
  have HM := Lib.hid h1
  clear h1
  have HR := Lib.hid hr
  clear hr
  obtain ⟨k, v, c, g, q, r, e, s, l⟩ := x
  simp only
  go_enter Try.func14, Try.ntmps14
  go_wp2_with (go_at_call 16; refine (rRight ⟨k, v, c, g, q, r, e, s, l⟩ sa ra sc rc _ (HM.out.below (bel1 _ _))).mono ?_; rintro e1 w1 ⟨rfl, hb⟩; rw [HR.out]; have HB := Lib.hid (bel_up (bel1 _ _) hb); clear hb)
  go_ret2
  exact ⟨rfl, HB.out⟩

set_option maxRecDepth 100000 in
set_option maxHeartbeats 4000000 in
theorem rEncode_8 (k v c g r e : Int) (q : Bool) (s : List Int) (l : List Rec) (sa ra : Option Addr) (sc rc : Nat) (w : World) (h1 : Ms w ⟨k, v, c, g, q, r, e, s, l⟩ sa ra) (hf : (⟨k, v, c, g, q, r, e, s, l⟩ : Msg).fit) (hr : right ⟨k, v, c, g, q, r, e, s, l⟩ = true) (hk : k ≠ 34) (hv : v ≠ 3) :
    Calls Try.prog 14 #[.agg #[.int .u8 k, .int .i64 v, .int .u8 c, .int .u32 g, .bool q, .int .u8 r, .int .u8 e, .slice sa s.length sc, .slice ra l.length rc]] w fun x w' => ∃ gg cap', x = .returned (.tuple #[.slice (some ⟨gg, 0, none⟩) (enc0 ⟨k, v, c, g, q, r, e, s, l⟩).length cap', .int .i64 0]) ∧ Og w' gg (encM ⟨k, v, c, g, q, r, e, s, l⟩) ∧ w.heap.size ≤ gg ∧ Below w.heap.size w w' := by
  have HM := Lib.hid h1
  have HR := Lib.hid hr
  have HI := Lib.hid (isB_enc_m hf hr)
  have hln := right_len hr
  obtain ⟨N, hN⟩ : ∃ N, N = (enc0 ⟨k, v, c, g, q, r, e, s, l⟩).length := ⟨_, rfl⟩
  rw [← hN] at hln ⊢
  obtain ⟨hln1, hln2⟩ := hln
  have HN := Lib.hid hN
  have HF := Lib.hid hf
  obtain ⟨_, _, hc, hg, hrb, he, _, _⟩ := hf.1
  simp only at hc hg hrb he
  obtain ⟨g0, g1⟩ := hg
  have K34 := Lib.hid hk
  have hk0 : (k == 34) = false := by simp; exact hk
  have hv0 : (v == 3) = false := by simp; exact hv
  have HNA : Hid (N = 4 + 4) := Lib.hid (by rw [hN, enc0_len, if_neg hk, if_neg hv])
  have EE : Hid (enc0 ⟨k, v, c, g, q, r, e, s, l⟩ = [k, c, 0, 0] ++ l4 g) := Lib.hid (by simp [enc0, hk, hv])
  clear hk hv
  obtain ⟨W1, hW1⟩ : ∃ W1, w.alloc (.cells #[.int .u8 k, .int .i64 v, .int .u8 c, .int .u32 g, .bool q, .int .u8 r, .int .u8 e, .slice sa s.length sc, .slice ra l.length rc] 27) = W1 := ⟨_, rfl⟩
  have HW1 := Lib.hid hW1
  have BW1 := Lib.hid (by rw [← hW1]; exact bel1 w _ : Below w.heap.size w W1)
  clear h1 hf hr hN hW1 hc hrb he
  go_enter Try.func14, Try.ntmps14
  go_wp2_with (first
    | (go_at_call 16; refine (rRight ⟨k, v, c, g, q, r, e, s, l⟩ sa ra sc rc _ (HM.out.below (bel1 _ _))).mono ?_; rintro e1 w2 ⟨rfl, hb⟩; rw [HR.out]; rw [HW1.out] at hb; have HB2 := Lib.hid hb; obtain ⟨b0, b1, b2, b3, b4, b5, b6, b7, b8⟩ := boxW HW1.out hb; have lw2 := box_lt HW1.out hb; have HO2 : Hid (∀ x y : Int, Ow (w2.alloc (.cells #[.int .u8 x, .int .u8 y, .int .u8 0, .int .u8 0] 5)) W1.heap.size (some ⟨w2.heap.size, 0, none⟩) 4 4 [x, y, 0, 0]) := Lib.hid (fun x y => ow_four w2 W1.heap.size x y hb.size); clear hb)
    | (go_at_call 28; refine (rBytes4 g _ g0 g1).mono ?_; rintro e1 w3 ⟨rfl, rfl⟩)
    | ((with_reducible refine wpList_app_st rfl (.tmp 58) (.tmp 61) rfl W1.heap.size (some ⟨w2.heap.size, 0, none⟩) 4 4 [k, c, 0, 0] rfl ((HO2.out k c).alloc _) (some ⟨w2.heap.size + 1, 0, none⟩) 4 4 (l4 g) rfl rfl (bs_four2 _ _ g ⟨g0, g1⟩) (fun e => by cases e) (by omega) ((HB2.out.alloc HB2.out.size _).alloc (HB2.out.alloc HB2.out.size _).size _).size ?_); intro a4 cap4 w4 how4 hb4 hst4; have HB4 := Lib.hid (((HB2.out.alloc HB2.out.size _).alloc (HB2.out.alloc HB2.out.size _).size _).trans hb4.out); obtain ⟨p0, p1, p2, p3, p4, p5, p6, p7, p8⟩ := boxW HW1.out HB4.out; have lw4 := box_lt HW1.out HB4.out)
    | (go_at_call 29; refine (rPut2 _ _ _ (enc0 ⟨k, v, c, g, q, r, e, s, l⟩) _ (by have := HNA.out; omega) (by have h1 := HN.out; have h2 := HNA.out; omega) (by rw [EE.out]; exact how4.out.bs (by rw [← EE.out]; exact HI.out)) (by omega)).mono ?_; rintro e1 w9 ⟨gg, cap9, rfl, hob, hge, hb⟩; have HB9 := Lib.hid (HB4.out.trans (hb.mono HB4.out.size)); have HOB := Lib.hid hob; have HGE := Lib.hid hge; clear hob hge hb))
  go_ret2
  exact ⟨gg, cap9, by rw [HNA.out]; rfl, HOB.out, by have h1 := HGE.out; have h2 := BW1.out.size; have h3 := HB4.out.size; omega, BW1.out.trans (HB9.out.mono BW1.out.size)⟩

set_option maxRecDepth 100000 in
set_option maxHeartbeats 4000000 in
theorem rEncode_3f (k c g r e : Int) (s : List Int) (l : List Rec) (sa ra : Option Addr) (sc rc : Nat) (w : World) (h1 : Ms w ⟨k, 3, c, g, false, r, e, s, l⟩ sa ra) (hf : (⟨k, 3, c, g, false, r, e, s, l⟩ : Msg).fit) (hr : right ⟨k, 3, c, g, false, r, e, s, l⟩ = true) :
    Calls Try.prog 14 #[.agg #[.int .u8 k, .int .i64 3, .int .u8 c, .int .u32 g, .bool false, .int .u8 r, .int .u8 e, .slice sa s.length sc, .slice ra l.length rc]] w fun x w' => ∃ gg cap', x = .returned (.tuple #[.slice (some ⟨gg, 0, none⟩) (enc0 ⟨k, 3, c, g, false, r, e, s, l⟩).length cap', .int .i64 0]) ∧ Og w' gg (encM ⟨k, 3, c, g, false, r, e, s, l⟩) ∧ w.heap.size ≤ gg ∧ Below w.heap.size w w' := by
  have HM := Lib.hid h1
  have HR := Lib.hid hr
  have HI := Lib.hid (isB_enc_m hf hr)
  have hln := right_len hr
  obtain ⟨N, hN⟩ : ∃ N, N = (enc0 ⟨k, 3, c, g, false, r, e, s, l⟩).length := ⟨_, rfl⟩
  rw [← hN] at hln ⊢
  obtain ⟨hln1, hln2⟩ := hln
  have HN := Lib.hid hN
  have HF := Lib.hid hf
  obtain ⟨_, _, hc, hg, hrb, he, _, _⟩ := hf.1
  simp only at hc hg hrb he
  obtain ⟨g0, g1⟩ := hg
  have HRB := Lib.hid hrb
  have HEV := Lib.hid he
  have Q3 := Lib.hid (right_q3 hr rfl).2
  have HSA := Lib.hid h1.1
  have r0 : 0 ≤ r := hrb.1
  have r8 : r < 8 := (right_q3 hr rfl).2.1
  have s64 : s.length ≤ 64 := (right_q3 hr rfl).2.2
  have hk0 : (k == 34) = false := by simp; exact (right_q3 hr rfl).1
  have K34 := Lib.hid (right_q3 hr rfl).1
  have HNA : Hid (N = 4 + 4 + 2 + 2 + 0 + 4 * s.length) := Lib.hid (by rw [hN, enc0_len, if_neg K34.out, if_pos rfl]; show 8 + (4 + 4 * s.length) = _; omega)
  have EE : Hid (enc0 ⟨k, 3, c, g, false, r, e, s, l⟩ = [k, c, 0, 0] ++ l4 g ++ [r, e] ++ two s.length ++ [] ++ ads s) := Lib.hid (by have := K34.out; simp only at this; simp [enc0, besB, this])
  have HXY : Hid (∀ W : World, Bs (W.alloc (.cells #[.int .u8 r, .int .u8 e] 5)) (some ⟨W.heap.size, 0, none⟩) [r, e]) := Lib.hid (fun W => bs_xy W _ _ (by omega) he)
  obtain ⟨W1, hW1⟩ : ∃ W1, w.alloc (.cells #[.int .u8 k, .int .i64 3, .int .u8 c, .int .u32 g, .bool false, .int .u8 r, .int .u8 e, .slice sa s.length sc, .slice ra l.length rc] 27) = W1 := ⟨_, rfl⟩
  have HW1 := Lib.hid hW1
  have BW1 := Lib.hid (by rw [← hW1]; exact bel1 w _ : Below w.heap.size w W1)
  clear h1 hf hr hN hW1 hc hrb he
  go_enter Try.func14, Try.ntmps14
  go_wp2_with (first
    | (go_at_call 16; refine (rRight ⟨k, 3, c, g, false, r, e, s, l⟩ sa ra sc rc _ (HM.out.below (bel1 _ _))).mono ?_; rintro e1 w2 ⟨rfl, hb⟩; rw [HR.out]; rw [HW1.out] at hb; have HB2 := Lib.hid hb; obtain ⟨b0, b1, b2, b3, b4, b5, b6, b7, b8⟩ := boxW HW1.out hb; have lw2 := box_lt HW1.out hb; have HO2 : Hid (∀ x y : Int, Ow (w2.alloc (.cells #[.int .u8 x, .int .u8 y, .int .u8 0, .int .u8 0] 5)) W1.heap.size (some ⟨w2.heap.size, 0, none⟩) 4 4 [x, y, 0, 0]) := Lib.hid (fun x y => ow_four w2 W1.heap.size x y hb.size); clear hb)
    | (go_at_call 28; refine (rBytes4 g _ g0 g1).mono ?_; rintro e1 w3 ⟨rfl, rfl⟩)
    | ((with_reducible refine wpList_app_st rfl (.tmp 58) (.tmp 61) rfl W1.heap.size (some ⟨w2.heap.size, 0, none⟩) 4 4 [k, c, 0, 0] rfl ((HO2.out k c).alloc _) (some ⟨w2.heap.size + 1, 0, none⟩) 4 4 (l4 g) rfl rfl (bs_four2 _ _ g ⟨g0, g1⟩) (fun e => by cases e) (by omega) ((HB2.out.alloc HB2.out.size _).alloc (HB2.out.alloc HB2.out.size _).size _).size ?_); intro a4 cap4 w4 how4 hb4 hst4; have HB4 := Lib.hid (((HB2.out.alloc HB2.out.size _).alloc (HB2.out.alloc HB2.out.size _).size _).trans hb4.out); obtain ⟨p0, p1, p2, p3, p4, p5, p6, p7, p8⟩ := boxW HW1.out HB4.out; have lw4 := box_lt HW1.out HB4.out)
    | ((with_reducible refine wpList_app_st rfl (.tmp 72) (.tmp 76) rfl W1.heap.size a4 (4 + 4) cap4 ([k, c, 0, 0] ++ l4 g) rfl (how4.out.alloc _) (some ⟨w4.heap.size, 0, none⟩) 2 2 [r, e] rfl rfl (HXY.out _) (fun e => by cases e) (by omega) ((HB4.out.alloc HB4.out.size _).size) ?_); intro a5 cap5 w5 how5 hb5 hst5; have HB5 := Lib.hid ((HB4.out.alloc HB4.out.size _).trans hb5.out); obtain ⟨o0, o1, o2, o3, o4, o5, o6, o7, o8⟩ := boxW HW1.out HB5.out; have lw5 := box_lt HW1.out HB5.out)
    | (go_at_call 27; refine (rRowsOf w a5 none sa (4 + 4 + 2) cap5 0 0 sc W1.heap.size ([k, c, 0, 0] ++ l4 g ++ [r, e]) [] s _ how5.out HB5.out.size rfl (bs_nil _) (fun _ => ⟨rfl, rfl⟩) (fun q o e => by cases e) s64 HSA.out (BW1.out.trans (HB5.out.mono BW1.out.size)) BW1.out.size (by omega)).mono ?_; rintro e1 w6 ⟨a6, cap6, rfl, how6, hb6⟩; have HO6 := Lib.hid how6; have HB6 := Lib.hid (HB5.out.trans hb6); clear how6 hb6)
    | (go_at_call 29; refine (rPut2 _ _ _ (enc0 ⟨k, 3, c, g, false, r, e, s, l⟩) _ (by have := HNA.out; omega) (by have h1 := HN.out; have h2 := HNA.out; omega) (by rw [EE.out]; exact HO6.out.bs (by rw [← EE.out]; exact HI.out)) (by omega)).mono ?_; rintro e1 w9 ⟨gg, cap9, rfl, hob, hge, hb⟩; have HB9 := Lib.hid (HB6.out.trans (hb.mono HB6.out.size)); have HOB := Lib.hid hob; have HGE := Lib.hid hge; clear hob hge hb))
  go_ret2
  exact ⟨gg, cap9, by rw [HNA.out]; rfl, HOB.out, by have h1 := HGE.out; have h2 := BW1.out.size; have h3 := HB6.out.size; omega, BW1.out.trans (HB9.out.mono BW1.out.size)⟩

set_option maxRecDepth 100000 in
set_option maxHeartbeats 4000000 in
theorem rEncode_3t (k c g r e : Int) (s : List Int) (l : List Rec) (sa ra : Option Addr) (sc rc : Nat) (w : World) (h1 : Ms w ⟨k, 3, c, g, true, r, e, s, l⟩ sa ra) (hf : (⟨k, 3, c, g, true, r, e, s, l⟩ : Msg).fit) (hr : right ⟨k, 3, c, g, true, r, e, s, l⟩ = true) :
    Calls Try.prog 14 #[.agg #[.int .u8 k, .int .i64 3, .int .u8 c, .int .u32 g, .bool true, .int .u8 r, .int .u8 e, .slice sa s.length sc, .slice ra l.length rc]] w fun x w' => ∃ gg cap', x = .returned (.tuple #[.slice (some ⟨gg, 0, none⟩) (enc0 ⟨k, 3, c, g, true, r, e, s, l⟩).length cap', .int .i64 0]) ∧ Og w' gg (encM ⟨k, 3, c, g, true, r, e, s, l⟩) ∧ w.heap.size ≤ gg ∧ Below w.heap.size w w' := by
  have HM := Lib.hid h1
  have HR := Lib.hid hr
  have HI := Lib.hid (isB_enc_m hf hr)
  have hln := right_len hr
  obtain ⟨N, hN⟩ : ∃ N, N = (enc0 ⟨k, 3, c, g, true, r, e, s, l⟩).length := ⟨_, rfl⟩
  rw [← hN] at hln ⊢
  obtain ⟨hln1, hln2⟩ := hln
  have HN := Lib.hid hN
  have HF := Lib.hid hf
  obtain ⟨_, _, hc, hg, hrb, he, _, _⟩ := hf.1
  simp only at hc hg hrb he
  obtain ⟨g0, g1⟩ := hg
  have HRB := Lib.hid hrb
  have HEV := Lib.hid he
  have Q3 := Lib.hid (right_q3 hr rfl).2
  have HSA := Lib.hid h1.1
  have r0 : 0 ≤ r := hrb.1
  have r8 : r < 8 := (right_q3 hr rfl).2.1
  have s64 : s.length ≤ 64 := (right_q3 hr rfl).2.2
  have hk0 : (k == 34) = false := by simp; exact (right_q3 hr rfl).1
  have K34 := Lib.hid (right_q3 hr rfl).1
  have HNA : Hid (N = 4 + 4 + 2 + 2 + 0 + 4 * s.length) := Lib.hid (by rw [hN, enc0_len, if_neg K34.out, if_pos rfl]; show 8 + (4 + 4 * s.length) = _; omega)
  have EE : Hid (enc0 ⟨k, 3, c, g, true, r, e, s, l⟩ = [k, c, 0, 0] ++ l4 g ++ [(r + 8), e] ++ two s.length ++ [] ++ ads s) := Lib.hid (by have := K34.out; simp only at this; simp [enc0, besB, this])
  have HXY : Hid (∀ W : World, Bs (W.alloc (.cells #[.int .u8 (r + 8), .int .u8 e] 5)) (some ⟨W.heap.size, 0, none⟩) [(r + 8), e]) := Lib.hid (fun W => bs_xy W _ _ (by omega) he)
  obtain ⟨W1, hW1⟩ : ∃ W1, w.alloc (.cells #[.int .u8 k, .int .i64 3, .int .u8 c, .int .u32 g, .bool true, .int .u8 r, .int .u8 e, .slice sa s.length sc, .slice ra l.length rc] 27) = W1 := ⟨_, rfl⟩
  have HW1 := Lib.hid hW1
  have BW1 := Lib.hid (by rw [← hW1]; exact bel1 w _ : Below w.heap.size w W1)
  clear h1 hf hr hN hW1 hc hrb he
  go_enter Try.func14, Try.ntmps14
  go_wp2_with (first
    | (go_at_call 16; refine (rRight ⟨k, 3, c, g, true, r, e, s, l⟩ sa ra sc rc _ (HM.out.below (bel1 _ _))).mono ?_; rintro e1 w2 ⟨rfl, hb⟩; rw [HR.out]; rw [HW1.out] at hb; have HB2 := Lib.hid hb; obtain ⟨b0, b1, b2, b3, b4, b5, b6, b7, b8⟩ := boxW HW1.out hb; have lw2 := box_lt HW1.out hb; have HO2 : Hid (∀ x y : Int, Ow (w2.alloc (.cells #[.int .u8 x, .int .u8 y, .int .u8 0, .int .u8 0] 5)) W1.heap.size (some ⟨w2.heap.size, 0, none⟩) 4 4 [x, y, 0, 0]) := Lib.hid (fun x y => ow_four w2 W1.heap.size x y hb.size); clear hb)
    | (go_at_call 28; refine (rBytes4 g _ g0 g1).mono ?_; rintro e1 w3 ⟨rfl, rfl⟩)
    | ((with_reducible refine wpList_app_st rfl (.tmp 58) (.tmp 61) rfl W1.heap.size (some ⟨w2.heap.size, 0, none⟩) 4 4 [k, c, 0, 0] rfl ((HO2.out k c).alloc _) (some ⟨w2.heap.size + 1, 0, none⟩) 4 4 (l4 g) rfl rfl (bs_four2 _ _ g ⟨g0, g1⟩) (fun e => by cases e) (by omega) ((HB2.out.alloc HB2.out.size _).alloc (HB2.out.alloc HB2.out.size _).size _).size ?_); intro a4 cap4 w4 how4 hb4 hst4; have HB4 := Lib.hid (((HB2.out.alloc HB2.out.size _).alloc (HB2.out.alloc HB2.out.size _).size _).trans hb4.out); obtain ⟨p0, p1, p2, p3, p4, p5, p6, p7, p8⟩ := boxW HW1.out HB4.out; have lw4 := box_lt HW1.out HB4.out)
    | ((with_reducible refine wpList_app_st rfl (.tmp 72) (.tmp 76) rfl W1.heap.size a4 (4 + 4) cap4 ([k, c, 0, 0] ++ l4 g) rfl (how4.out.alloc _) (some ⟨w4.heap.size, 0, none⟩) 2 2 [(r + 8), e] rfl rfl (HXY.out _) (fun e => by cases e) (by omega) ((HB4.out.alloc HB4.out.size _).size) ?_); intro a5 cap5 w5 how5 hb5 hst5; have HB5 := Lib.hid ((HB4.out.alloc HB4.out.size _).trans hb5.out); obtain ⟨o0, o1, o2, o3, o4, o5, o6, o7, o8⟩ := boxW HW1.out HB5.out; have lw5 := box_lt HW1.out HB5.out)
    | (go_at_call 27; refine (rRowsOf w a5 none sa (4 + 4 + 2) cap5 0 0 sc W1.heap.size ([k, c, 0, 0] ++ l4 g ++ [(r + 8), e]) [] s _ how5.out HB5.out.size rfl (bs_nil _) (fun _ => ⟨rfl, rfl⟩) (fun q o e => by cases e) s64 HSA.out (BW1.out.trans (HB5.out.mono BW1.out.size)) BW1.out.size (by omega)).mono ?_; rintro e1 w6 ⟨a6, cap6, rfl, how6, hb6⟩; have HO6 := Lib.hid how6; have HB6 := Lib.hid (HB5.out.trans hb6); clear how6 hb6)
    | (go_at_call 29; refine (rPut2 _ _ _ (enc0 ⟨k, 3, c, g, true, r, e, s, l⟩) _ (by have := HNA.out; omega) (by have h1 := HN.out; have h2 := HNA.out; omega) (by rw [EE.out]; exact HO6.out.bs (by rw [← EE.out]; exact HI.out)) (by omega)).mono ?_; rintro e1 w9 ⟨gg, cap9, rfl, hob, hge, hb⟩; have HB9 := Lib.hid (HB6.out.trans (hb.mono HB6.out.size)); have HOB := Lib.hid hob; have HGE := Lib.hid hge; clear hob hge hb))
  go_ret2
  exact ⟨gg, cap9, by rw [HNA.out]; rfl, HOB.out, by have h1 := HGE.out; have h2 := BW1.out.size; have h3 := HB6.out.size; omega, BW1.out.trans (HB9.out.mono BW1.out.size)⟩
end Go.Proofs.Ytmcnanoamgkljaa
/- A report's bytes, the document's own answer (stolonref05.Encode). -/
namespace Go.Proofs.Ytmcnanoamgkljaa
set_option linter.unusedVariables false
open Go.RowKit

set_option maxRecDepth 100000 in
set_option maxHeartbeats 4000000 in
theorem rEncode_34 (c g r e : Int) (q : Bool) (s : List Int) (l : List Rec) (sa ra : Option Addr) (sc rc : Nat) (w : World) (h1 : Ms w ⟨34, 0, c, g, q, r, e, s, l⟩ sa ra) (hf : (⟨34, 0, c, g, q, r, e, s, l⟩ : Msg).fit) (hr : right ⟨34, 0, c, g, q, r, e, s, l⟩ = true) :
    Calls Try.prog 14 #[.agg #[.int .u8 34, .int .i64 0, .int .u8 c, .int .u32 g, .bool q, .int .u8 r, .int .u8 e, .slice sa s.length sc, .slice ra l.length rc]] w fun x w' => ∃ gg cap', x = .returned (.tuple #[.slice (some ⟨gg, 0, none⟩) (enc0 ⟨34, 0, c, g, q, r, e, s, l⟩).length cap', .int .i64 0]) ∧ Og w' gg (encM ⟨34, 0, c, g, q, r, e, s, l⟩) ∧ w.heap.size ≤ gg ∧ Below w.heap.size w w' := by
  have HM := Lib.hid h1
  have HR := Lib.hid hr
  have HI := Lib.hid (isB_enc_m hf hr)
  have hln := right_len hr
  obtain ⟨N, hN⟩ : ∃ N, N = (enc0 ⟨34, 0, c, g, q, r, e, s, l⟩).length := ⟨_, rfl⟩
  rw [← hN] at hln ⊢
  obtain ⟨hln1, hln2⟩ := hln
  have HN := Lib.hid hN
  have HF := Lib.hid hf
  obtain ⟨_, _, hc, hg, hrb, he, _, _⟩ := hf.1
  simp only at hc hg hrb he
  obtain ⟨g0, g1⟩ := hg
  have hokl := (right_34 hr rfl).2
  unfold okL at hokl
  rw [Bool.and_eq_true, decide_eq_true_eq] at hokl
  obtain ⟨hl, hal⟩ := hokl
  have hle := recsN_le hal
  obtain ⟨n, hx⟩ : ∃ n, n = l.length := ⟨_, rfl⟩
  have HAL := Lib.hid hal
  have HX := Lib.hid hx
  rw [← hx]
  simp only at hl hle
  rw [← hx] at hl hle
  have HNA : Hid (N = 4 + 4 + recsN l) := Lib.hid (by rw [hN, enc0_len, if_pos rfl, if_neg (by simp)]; show 8 + recsN l + 0 = _; omega)
  have EE : Hid (enc0 ⟨34, 0, c, g, q, r, e, s, l⟩ = [34, c, 0, 0] ++ ([0, 0] ++ two n) ++ recsB l) := Lib.hid (by simp [enc0, repB, hx])
  clear hal hx
  obtain ⟨W1, hW1⟩ : ∃ W1, w.alloc (.cells #[.int .u8 34, .int .i64 0, .int .u8 c, .int .u32 g, .bool q, .int .u8 r, .int .u8 e, .slice sa s.length sc, .slice ra n rc] 27) = W1 := ⟨_, rfl⟩
  have HW1 := Lib.hid hW1
  have BW1 := Lib.hid (by rw [← hW1]; exact bel1 w _ : Below w.heap.size w W1)
  clear h1 hf hr hN hW1 hc hrb he
  go_enter Try.func14, Try.ntmps14
  go_wp2_with (first
    | (go_at_call 16; rw [HX.out]; refine (rRight ⟨34, 0, c, g, q, r, e, s, l⟩ sa ra sc rc _ (HM.out.below (bel1 _ _))).mono ?_; rintro e1 w2 ⟨rfl, hb⟩; rw [HR.out]; rw [← HX.out] at hb ⊢; rw [HW1.out] at hb; have HB2 := Lib.hid hb; obtain ⟨b0, b1, b2, b3, b4, b5, b6, b7, b8⟩ := boxW HW1.out hb; have lw2 := box_lt HW1.out hb; have HO2 : Hid (∀ x y : Int, Ow (w2.alloc (.cells #[.int .u8 x, .int .u8 y, .int .u8 0, .int .u8 0] 5)) W1.heap.size (some ⟨w2.heap.size, 0, none⟩) 4 4 [x, y, 0, 0]) := Lib.hid (fun x y => ow_four w2 W1.heap.size x y hb.size); clear hb)
    | ((with_reducible refine wpList_app_st rfl (.tmp 20) (.tmp 25) rfl W1.heap.size (some ⟨w2.heap.size, 0, none⟩) 4 4 [34, c, 0, 0] rfl ((HO2.out 34 c).alloc _) (some ⟨w2.heap.size + 1, 0, none⟩) 4 4 ([0, 0] ++ two n) rfl rfl (bs_rep2 _ _ _ (by omega)) (fun e => by cases e) (by omega) ((HB2.out.alloc HB2.out.size _).alloc (HB2.out.alloc HB2.out.size _).size _).size ?_); intro a4 cap4 w4 how4 hb4 hst4; have HB4 := Lib.hid (((HB2.out.alloc HB2.out.size _).alloc (HB2.out.alloc HB2.out.size _).size _).trans hb4.out); obtain ⟨p0, p1, p2, p3, p4, p5, p6, p7, p8⟩ := boxW HW1.out HB4.out; have lw4 := box_lt HW1.out HB4.out))
  go_loopw [5, 6] (fun b i wr => ∃ (k : Nat) (a' : Option Addr) (cap' : Nat), k ≤ n ∧ i = .int .i64 k ∧ b = .slice a' (4 + 4 + recsN (l.take k)) cap' ∧ Ow wr W1.heap.size a' (4 + 4 + recsN (l.take k)) cap' ([34, c, 0, 0] ++ ([0, 0] ++ two n) ++ recsB (l.take k)) ∧ Below W1.heap.size W1 wr) (fun _ i _ => n - (intOf i).toNat)
  case atStart => exact ⟨0, a4, cap4, by omega, rfl, rfl, by simpa [recsN, recsB] using how4.out, HB4.out⟩
  case round =>
    obtain ⟨k, a5, cap5, hk, rfl, rfl, how, hbel⟩ := hrel
    have HO := Lib.hid how
    have HB := Lib.hid hbel
    clear how hbel
    obtain ⟨o0, o1, o2, o3, o4, o5, o6, o7, o8⟩ := boxW HW1.out HB.out
    have lwr := box_lt HW1.out HB.out
    by_cases hlt : k < n
    · obtain ⟨x, hxk⟩ : ∃ x, l[k]? = some x := ⟨_, List.getElem?_eq_getElem (by have := HX.out; omega)⟩
      have h264 : recsN (l.take k) ≤ 264 * 32 := Nat.le_trans (recsN_le (l := l.take k) (List.all_eq_true.2 fun r hr => List.all_eq_true.1 HAL.out r (List.mem_of_mem_take hr))) (by have := List.length_take_le k l; omega)
      have hok : okR x = true := List.all_eq_true.1 HAL.out x (List.mem_of_getElem? hxk)
      rcases HM.out.2.1 with e0 | ⟨q1, z1, rfl, hcc⟩
      · have := HX.out; simp only at e0; rw [e0] at this; simp at this; omega
      have hr := hcc k x hxk
      have HRO := Lib.hid (recAt_ok hr)
      have BWR := Lib.hid (BW1.out.trans (HB.out.mono BW1.out.size))
      obtain ⟨ax, cx, x0, x1, x2, hxa, x4, x5, hxl⟩ := hr.up BWR.out
      have HRR := Lib.hid hr
      have hcl := hr
      obtain ⟨_, _, hc0, _⟩ := hcl
      have lq := cell_lt hc0
      clear hcc hr hc0
      have hs64 : x.srcs.length ≤ 64 := by
        simp only [okR, Bool.and_eq_true, decide_eq_true_eq] at hok
        exact hok.2
      have HE := Lib.hid (recsB_take_succ hxk)
      have HEN : Hid (recsN (l.take (k + 1)) = recsN (l.take k) + (8 + 4 * x.srcs.length)) := Lib.hid (by rw [← recsB_len, recsB_take_succ hxk, List.length_append, recsB_len, recB_len])
      have HXA := Lib.hid hxa
      clear hxk hok hxa
      simp only at lq
      obtain ⟨t, gg, ss⟩ := x
      simp only at x0 x1 x2 x4 x5 hxl hs64 HXA
      obtain ⟨m, hm⟩ : ∃ m, m = recsN (l.take k) := ⟨_, rfl⟩
      rw [← hm] at h264 HO
      have HMM := Lib.hid hm
      rw [← hm]
      clear hm
      have i1 : (0 : Int) ≤ (k : Int) := by omega
      have i2 : (k : Int) < (n : Int) := by omega
      obtain ⟨gg0, gg1⟩ := x5
      obtain ⟨P0, hP0⟩ : ∃ P, P = [34, c, 0, 0] ++ ([0, 0] ++ two n) ++ recsB (l.take k) := ⟨_, rfl⟩
      rw [← hP0] at HO
      have HP0 := Lib.hid hP0
      clear hP0
      have x4' := x4
      go_wp2_with ((with_reducible refine wpList_app_st rfl (.tmp 34) (.tmp 41) rfl W1.heap.size a5 (4 + 4 + m) cap5 P0 rfl (HO.out.alloc _) (some ⟨wr.heap.size, 0, none⟩) 2 2 [t, 0] rfl rfl (bs_tz _ _ x4) (fun e => by cases e) (by omega) ((HB.out.alloc HB.out.size _).size) ?_); intro a6 cap6 w6 how6 hb6 hst6; have HB6 := Lib.hid ((HB.out.alloc HB.out.size _).trans hb6.out); obtain ⟨j0, j1, j2, j3, j4, j5, j6, j7, j8⟩ := boxW HW1.out HB6.out; have lw6 := box_lt HW1.out HB6.out; have BW6 := Lib.hid (BW1.out.trans (HB6.out.mono BW1.out.size)); have y1 := (BW6.out.cell (p := ⟨q1, z1 + k * 3 + 1, none⟩) lq).trans ((BWR.out.cell (p := ⟨q1, z1 + k * 3 + 1, none⟩) lq).symm.trans x1); have y2 := (BW6.out.cell (p := ⟨q1, z1 + k * 3 + 2, none⟩) lq).trans ((BWR.out.cell (p := ⟨q1, z1 + k * 3 + 2, none⟩) lq).symm.trans x2))
      go_region_held3 (fun w' => w'.cell? ⟨w.heap.size, 8, none⟩ = some (.slice (some ⟨q1, z1, none⟩) n rc) ∧ w'.cell? ⟨q1, z1 + k * 3 + 1, none⟩ = some (.int .u32 gg) ∧ w'.cell? ⟨q1, z1 + k * 3 + 2, none⟩ = some (.slice ax ss.length cx))
        (first | go_keep | exact ⟨B8.out, Y1.out, Y2.out⟩ | (go_split_ands; exact ⟨B8.out, Y1.out, Y2.out⟩))
        (first
          | (go_at_call 28; refine (rBytes4 gg _ gg0 gg1).mono ?_; rintro e1 w3 ⟨rfl, rfl⟩)
          | (go_at_call 27; refine (rRowsOf w a6 (some ⟨w6.heap.size, 0, none⟩) ax (8 + m + 2) cap6 4 4 cx W1.heap.size (P0 ++ [t, 0]) (l4 gg) ss (w6.alloc (bytes4 gg)).drew (how6.out.alloc _) (HB6.out.alloc HB6.out.size _).size rfl (bs_four _ _ ⟨gg0, gg1⟩) (fun e => by cases e) (fun q o e => by cases e; exact how6.out.ne (Nat.le_refl _)) hs64 HXA.out (BW6.out.alloc BW6.out.size _).drew BW1.out.size (by omega)).mono ?_; rintro e1 w7 ⟨a7, cap7, rfl, how7, hb7⟩; have HO7 := Lib.hid how7; have HB7 := Lib.hid ((HB6.out.alloc HB6.out.size (bytes4 gg)).drew.trans hb7); have B8 := Lib.hid (boxW HW1.out HB7.out).2.2.2.2.2.2.2.2; have BW7 := Lib.hid (BW1.out.trans (HB7.out.mono BW1.out.size)); have Y1 := Lib.hid ((BW7.out.cell (p := ⟨q1, z1 + k * 3 + 1, none⟩) lq).trans ((BWR.out.cell (p := ⟨q1, z1 + k * 3 + 1, none⟩) lq).symm.trans x1)); have Y2 := Lib.hid ((BW7.out.cell (p := ⟨q1, z1 + k * 3 + 2, none⟩) lq).trans ((BWR.out.cell (p := ⟨q1, z1 + k * 3 + 2, none⟩) lq).symm.trans x2)); clear how7 hb7)
          | fail)
      all_goals
        go_wp2
        go_roundw
        case rel => exact ⟨k + 1, a7, cap7, by omega, by go_num, by rw [HEN.out, ← HMM.out]; exact slice_eq (by omega), by rw [HEN.out, ← HMM.out, HE.out]; have := HO7.out; rw [HP0.out] at this; exact ow_eq this (by omega) (by simp [recB]), HB7.out⟩
        case measure => simp [intOf]; omega
    · obtain rfl : k = n := by omega
      have et : Hid (l.take k = l) := Lib.hid (List.take_of_length_le (by have := HX.out; omega))
      rw [et.out] at HO ⊢
      go_wp2_with (first
        | (go_at_call 29; refine (rPut2 _ _ _ (enc0 ⟨34, 0, c, g, q, r, e, s, l⟩) _ (by have := HNA.out; omega) (by have h1 := HN.out; have h2 := HNA.out; omega) (by rw [EE.out]; exact HO.out.bs (by rw [← EE.out]; exact HI.out)) (by omega)).mono ?_; rintro e1 w9 ⟨gg, cap9, rfl, hob, hge, hb⟩; have HB9 := Lib.hid (HB.out.trans (hb.mono HB.out.size)); have HOB := Lib.hid hob; have HGE := Lib.hid hge; clear hob hge hb))
      go_ret2
      exact ⟨gg, cap9, by rw [HNA.out]; rfl, HOB.out, by have h1 := HGE.out; have h2 := BW1.out.size; have h3 := HB.out.size; omega, BW1.out.trans (HB9.out.mono BW1.out.size)⟩

theorem rEncode_ok (x : Msg) (sa ra : Option Addr) (sc rc : Nat) (w : World) (h1 : Ms w x sa ra) (hf : x.fit) (hr : right x = true) :
    Calls Try.prog 14 #[.agg #[.int .u8 x.kind, .int .i64 x.ver, .int .u8 x.code, .int .u32 x.grp, .bool x.quiet, .int .u8 x.rob, .int .u8 x.every, .slice sa x.srcs.length sc, .slice ra x.recs.length rc]] w
      fun e w' => ∃ gg cap', e = .returned (.tuple #[.slice (some ⟨gg, 0, none⟩) (enc0 x).length cap', .int .i64 0]) ∧ Og w' gg (encM x) ∧ w.heap.size ≤ gg ∧ Below w.heap.size w w' := by
  obtain ⟨k, v, c, g, q, r, e, s, l⟩ := x
  by_cases hk : k = 34
  · subst hk
    obtain rfl : v = 0 := (right_34 hr rfl).1
    exact rEncode_34 c g r e q s l sa ra sc rc w h1 hf hr
  by_cases hv : v = 3
  · subst hv
    cases q
    · exact rEncode_3f k c g r e s l sa ra sc rc w h1 hf hr
    · exact rEncode_3t k c g r e s l sa ra sc rc w h1 hf hr
  exact rEncode_8 k v c g r e q s l sa ra sc rc w h1 hf hr hk hv
end Go.Proofs.Ytmcnanoamgkljaa
