/- The law IpOne: every call returns true, and its arguments read behind the call as before it. Condition: none but the row's own. -/
import Derived.Test.YthmejokjbkkfbaaFs4
import Derived.Test.YthmejokjbkkfbaaBt
namespace Go.Proofs.Ythmejokjbkkfbaa.ipOne
set_option linter.unusedVariables false
open Go.ChangeShapes Go.WideShapes Go.ChangeAt Go.RowKit
open Go.ChangeMaps (open_string shut_string)

theorem other {xs : List Int} (h : IsB xs) {k : Nat} (hk : k < xs.length) {v : Int} (hv : v ≠ xs.getD k 0) (h0 : 0 ≤ v) (h1 : v ≤ 255) (hw : ofs xs = 0) : ofs (xs.set k v) ≠ 0 := by
  intro h2
  have e := tot_set xs k v hk
  have hx := h k hk
  have t1 := (ofs_zero h).1 hw
  have t2 := (ofs_zero (isB_set h k h0 h1)).1 h2
  have hwt : wt k = 256 ∨ wt k = 1 := by unfold wt; split <;> simp
  generalize tot (xs.set k v) = T at *
  generalize tot xs = S at *
  generalize xs.getD k 0 = x at *
  rcases hwt with hwt | hwt <;> rw [hwt] at e <;> omega
/-- A frame a byte of whose header is another one. -/
theorem one_fault {h : Hdr} (hk : h.ok) (xs : List Int) (hl : hsz h.alert + xs.length ≤ 1500) {j : Nat} (hj : j < hsz h.alert) {v : Int} (h0 : 0 ≤ v) (h1 : v ≤ 255) (hv : v ≠ (enc h xs).getD j 0) (hz : j = 0 → v ≠ 69 ∧ v ≠ 70) : fault ((enc h xs).set j v) ≠ 0 := by
  intro hf
  have g := good_of hf
  have hge := hsz_ge h.alert
  by_cases hj0 : j = 0
  · subst hj0
    have e0 : ((enc h xs).set 0 v).getD 0 0 = v := getD_set_self v (by rw [enc_len]; omega)
    have := g.first
    rw [e0] at this
    exact this.elim (hz rfl).1 (hz rfl).2
  · have e0 : ((enc h xs).set j v).getD 0 0 = fbt h.alert := by rw [getD_set_ne _ hj0]; exact first_enc h _ _
    have ha : al0 ((enc h xs).set j v) = h.alert := by
      unfold al0; rw [e0]; cases h.alert <;> rfl
    have hw := g.whole
    rw [ha] at hw
    have e1 : ((enc h xs).set j v).take (hsz h.alert) = (hbytes h ((hsz h.alert + xs.length : Nat) : Int)).set j v := by
      rw [List.take_set]
      unfold enc
      rw [take_hb]
    rw [e1] at hw
    have hg : (enc h xs).getD j 0 = (hbytes h ((hsz h.alert + xs.length : Nat) : Int)).getD j 0 := by unfold enc; exact getD_app (by rw [hbytes_len]; exact hj)
    exact other (isB_hbytes hk (by omega) (by omega)) (by rw [hbytes_len]; exact hj) (by rw [← hg]; exact hv) h0 h1 (ofs_hbytes hk (by omega) (by omega)) hw
theorem bs_set {w : World} {g j : Nat} {xs : List Int} {v : Int} (h : Bs w (some ⟨g, 0, none⟩) xs) (hj : j < xs.length) (h0 : 0 ≤ v) (h1 : v ≤ 255) : Bs (w.setCell ⟨g, j, none⟩ (.int .u8 v)) (some ⟨g, 0, none⟩) (xs.set j v) := by
  refine ⟨.inr ⟨g, 0, rfl, fun k hk => ?_⟩, isB_set h.2 j h0 h1⟩
  rw [List.length_set] at hk
  rw [Nat.zero_add]
  have hc : ∀ k, k < xs.length → w.cell? ⟨g, k, none⟩ = some (.int .u8 (xs.getD k 0)) := fun k hk => by
    have := bs_cell h hk
    rwa [Nat.zero_add] at this
  by_cases hkj : k = j
  · subst hkj
    rw [getD_set_self v hk]
    exact World.cell?_setCell_same' _ _ _ (by rw [hc k hk]; rfl)
  · rw [World.cell?_setCell_other _ _ _ _ (by intro e; cases e; exact hkj rfl), getD_set_ne _ (fun e => hkj e.symm)]
    exact hc k hk
theorem pow_one {y : Int} (h0 : 0 ≤ y) : (2 ^ (y % 8).toNat % 256 : Int) = 1 ∨ (2 ^ (y % 8).toNat % 256 : Int) = 2 ∨ (2 ^ (y % 8).toNat % 256 : Int) = 4 ∨ (2 ^ (y % 8).toNat % 256 : Int) = 8 ∨ (2 ^ (y % 8).toNat % 256 : Int) = 16 ∨ (2 ^ (y % 8).toNat % 256 : Int) = 32 ∨ (2 ^ (y % 8).toNat % 256 : Int) = 64 ∨ (2 ^ (y % 8).toNat % 256 : Int) = 128 := by
  obtain ⟨r, hr⟩ : ∃ r : Nat, (y % 8).toNat = r := ⟨_, rfl⟩
  rw [hr]
  have hc : r = 0 ∨ r = 1 ∨ r = 2 ∨ r = 3 ∨ r = 4 ∨ r = 5 ∨ r = 6 ∨ r = 7 := by omega
  rcases hc with rfl | rfl | rfl | rfl | rfl | rfl | rfl | rfl <;> decide
theorem one_first {al : Bool} {z : Int} (hz : z = 1 ∨ z = 2 ∨ z = 4 ∨ z = 8 ∨ z = 16 ∨ z = 32 ∨ z = 64 ∨ z = 128) : bits .xor .u8 (fbt al) z ≠ 69 ∧ bits .xor .u8 (fbt al) z ≠ 70 := by
  cases al <;> rcases hz with rfl | rfl | rfl | rfl | rfl | rfl | rfl | rfl <;> decide
set_option maxRecDepth 100000 in
set_option maxHeartbeats 4000000 in
theorem walk_f (w : World) (h : Hdr) (hk : h.ok) (hal : h.alert = false) (a1 : Option Addr) (n1 c1 : Nat) (xs : List Int) (hx : xs.length = n1) (hm1 : n1 ≤ 9223372036854775807) (hb1 : Bs w a1 xs) (hnil1 : a1 = none → n1 = 0 ∧ c1 = 0) (k : Int) (hkb : -9223372036854775808 ≤ k ∧ k ≤ 9223372036854775807) (y : Int) (hy : 0 ≤ y ∧ y ≤ 255) :
    Calls Try.prog 7 #[.agg #[.int .u32 h.src, .int .u32 h.dst, .int .u8 h.proto, .int .u8 h.ttl, .int .u16 h.id, .bool h.alert, .slice a1 n1 c1, .int .i64 k, .int .u8 y]] w fun e w' => e = .returned (.bool true) ∧ Below w.heap.size w w' := by
  obtain ⟨y0, y1⟩ := hy
  have HK := Lib.hid hk
  have HX := Lib.hid hx
  have HB1 := Lib.hid hb1
  have HN1 := Lib.hid hnil1
  have HAL := Lib.hid hal
  have BX0 : Hid (HBox ((w.alloc (.cells #[.int .u32 h.src, .int .u32 h.dst, .int .u8 h.proto, .int .u8 h.ttl, .int .u16 h.id, .bool h.alert, .slice a1 n1 c1, .int .i64 k, .int .u8 y] 45)).alloc (.cells #[.int .u32 h.src, .int .u32 h.dst, .int .u8 h.proto, .int .u8 h.ttl, .int .u16 h.id, .bool h.alert] 26)) (w.heap.size + 1) h) := Lib.hid (by
    have := HBox.new (w.alloc (.cells #[.int .u32 h.src, .int .u32 h.dst, .int .u8 h.proto, .int .u8 h.ttl, .int .u16 h.id, .bool h.alert, .slice a1 n1 c1, .int .i64 k, .int .u8 y] 45)) h
    rwa [World.size_alloc] at this)
  have BW0 : Hid (Below w.heap.size w ((w.alloc (.cells #[.int .u32 h.src, .int .u32 h.dst, .int .u8 h.proto, .int .u8 h.ttl, .int .u16 h.id, .bool h.alert, .slice a1 n1 c1, .int .i64 k, .int .u8 y] 45)).alloc (.cells #[.int .u32 h.src, .int .u32 h.dst, .int .u8 h.proto, .int .u8 h.ttl, .int .u16 h.id, .bool h.alert] 26))) := Lib.hid (((Below.refl _ w).alloc (Nat.le_refl _) _).alloc (by simp) _)
  have hs : hsz h.alert = 20 := by rw [hal]; rfl
  have HS := Lib.hid hs
  have HEL : Hid ((enc h xs).length = 20 + n1) := Lib.hid (by rw [enc_len, hx, hs])
  have EA0 := Lib.hid (fun (W : World) (hW : Below w.heap.size w W) => by
    have := iEncodeA h a1 n1 c1 xs W hk hx hm1 (bs_below hb1 hW) hnil1
    rw [hal] at this; exact this)
  by_cases q1 : 1400 < n1
  · by_cases q2 : 20 + n1 ≤ 1500
    · have ENA : Hid (∀ W, Below w.heap.size w W → Calls Try.prog 10 #[.agg #[.int .u32 h.src, .int .u32 h.dst, .int .u8 h.proto, .int .u8 h.ttl, .int .u16 h.id, .bool false], .slice a1 n1 c1] W fun e w' => ∃ ax lx cx, e = .returned (.tuple #[.slice ax lx cx, .int .i64 0]) ∧ Below W.heap.size W w') := Lib.hid (fun W hW => by
        refine (EA0.out W hW).mono ?_
        rw [show encE h xs = 0 from by unfold encE; rw [if_pos (by omega)]]
        rintro e w' ⟨v, rfl, ⟨ax, cx, rfl, -, -⟩, hb⟩
        exact ⟨ax, _, cx, rfl, hb⟩)
      clear hk hal hx hb1 hnil1 hs
      go_enter Try.func7, Try.ntmps7
      go_wp2_with (first
        | (go_at_call 9; refine (iShown _).mono ?_; rintro e w1 ⟨rfl, hb⟩; have W1 := Lib.hid (BW0.out.trans (hb.mono BW0.out.size)); have BX1 := Lib.hid (BX0.out.keep hb); obtain ⟨k0, k1, k2, k3, k4, k5⟩ := BX1.out.cells; rw [HAL.out] at k5; clear hb)
        | (go_at_call 10; refine (ENA.out _ W1.out).mono ?_; rintro e w2 ⟨ax, lx, cx, rfl, hb⟩; have W2 := Lib.hid (W1.out.trans (hb.mono W1.out.size)); have BX2 := Lib.hid (BX1.out.keep hb); obtain ⟨l0, l1, l2, l3, l4, l5⟩ := BX2.out.cells; rw [HAL.out] at l5; clear hb))
      go_ret
      exact ⟨rfl, W2.out⟩
    · have q3 : 1476 < n1 := by omega
      have d3 : decide ((1476 : Int) < (n1 : Int)) = true := decide_eq_true (by omega)
      have ENA : Hid (∀ W, Below w.heap.size w W → Calls Try.prog 10 #[.agg #[.int .u32 h.src, .int .u32 h.dst, .int .u8 h.proto, .int .u8 h.ttl, .int .u16 h.id, .bool false], .slice a1 n1 c1] W fun e w' => ∃ ax lx cx, e = .returned (.tuple #[.slice ax lx cx, .int .i64 7]) ∧ Below W.heap.size W w') := Lib.hid (fun W hW => by
        refine (EA0.out W hW).mono ?_
        rw [show encE h xs = 7 from by unfold encE; rw [if_neg (by omega)]]
        rintro e w' ⟨v, rfl, ⟨ax, cx, rfl, -, -⟩, hb⟩
        exact ⟨ax, _, cx, rfl, hb⟩)
      clear hk hal hx hb1 hnil1 hs
      go_enter Try.func7, Try.ntmps7
      go_wp2_with (first
        | (go_at_call 9; refine (iShown _).mono ?_; rintro e w1 ⟨rfl, hb⟩; have W1 := Lib.hid (BW0.out.trans (hb.mono BW0.out.size)); have BX1 := Lib.hid (BX0.out.keep hb); obtain ⟨k0, k1, k2, k3, k4, k5⟩ := BX1.out.cells; rw [HAL.out] at k5; clear hb)
        | (go_at_call 10; refine (ENA.out _ W1.out).mono ?_; rintro e w2 ⟨ax, lx, cx, rfl, hb⟩; have W2 := Lib.hid (W1.out.trans (hb.mono W1.out.size)); have BX2 := Lib.hid (BX1.out.keep hb); obtain ⟨l0, l1, l2, l3, l4, l5⟩ := BX2.out.cells; rw [HAL.out] at l5; clear hb))
      go_ret
      exact ⟨rfl, W2.out⟩
  have hl : hsz h.alert + n1 ≤ 1500 := by omega
  have ENO : Hid (∀ W, Below w.heap.size w W → Calls Try.prog 10 #[.agg #[.int .u32 h.src, .int .u32 h.dst, .int .u8 h.proto, .int .u8 h.ttl, .int .u16 h.id, .bool false], .slice a1 n1 c1] W fun e w' => ∃ g c, e = .returned (.tuple #[.slice (some ⟨g, 0, none⟩) (20 + n1) c, .int .i64 0]) ∧ 20 + n1 ≤ c ∧ W.heap.size ≤ g ∧ Bs w' (some ⟨g, 0, none⟩) (enc h xs) ∧ (∀ j, j < 20 + n1 → w'.frozen? ⟨g, j, none⟩ = false) ∧ Below W.heap.size W w') := Lib.hid (fun W hW => by
    have := iEncode h a1 n1 c1 xs W hk hx (bs_below hb1 hW) hnil1 hl
    rw [hal] at this
    refine this.mono ?_
    rintro e w' ⟨v, rfl, ⟨g, c, rfl, hg, hgc, hbx, hfz⟩, hb⟩
    rw [HEL.out] at hgc hfz ⊢
    exact ⟨g, c, rfl, hgc, hg, hbx, hfz, hb⟩)
  by_cases q4 : k < 0
  · clear hk hal hx hb1 hnil1 hs hl
    go_enter Try.func7, Try.ntmps7
    go_wp2_with (first
      | (go_at_call 9; refine (iShown _).mono ?_; rintro e w1 ⟨rfl, hb⟩; have W1 := Lib.hid (BW0.out.trans (hb.mono BW0.out.size)); have BX1 := Lib.hid (BX0.out.keep hb); obtain ⟨k0, k1, k2, k3, k4, k5⟩ := BX1.out.cells; rw [HAL.out] at k5; clear hb)
      | (go_at_call 10; refine (ENO.out _ W1.out).mono ?_; rintro e w2 ⟨g, c, rfl, hgc, hg, hbx, hfz, hb⟩; have W2 := Lib.hid (W1.out.trans (hb.mono W1.out.size)); have BX2 := Lib.hid (BX1.out.keep hb); obtain ⟨l0, l1, l2, l3, l4, l5⟩ := BX2.out.cells; rw [HAL.out] at l5; have XX := Lib.hid hbx; have FZ := Lib.hid hfz; clear hb hbx hfz))
    go_ret
    exact ⟨rfl, W2.out⟩
  obtain ⟨j, rfl⟩ := Int.eq_ofNat_of_zero_le (a := k) (by omega)
  by_cases q5 : 20 ≤ j
  · clear hk hal hx hb1 hnil1 hs hl
    go_enter Try.func7, Try.ntmps7
    go_wp2_with (first
      | (go_at_call 9; refine (iShown _).mono ?_; rintro e w1 ⟨rfl, hb⟩; have W1 := Lib.hid (BW0.out.trans (hb.mono BW0.out.size)); have BX1 := Lib.hid (BX0.out.keep hb); obtain ⟨k0, k1, k2, k3, k4, k5⟩ := BX1.out.cells; rw [HAL.out] at k5; clear hb)
      | (go_at_call 10; refine (ENO.out _ W1.out).mono ?_; rintro e w2 ⟨g, c, rfl, hgc, hg, hbx, hfz, hb⟩; have W2 := Lib.hid (W1.out.trans (hb.mono W1.out.size)); have BX2 := Lib.hid (BX1.out.keep hb); obtain ⟨l0, l1, l2, l3, l4, l5⟩ := BX2.out.cells; rw [HAL.out] at l5; have XX := Lib.hid hbx; have FZ := Lib.hid hfz; clear hb hbx hfz))
    go_ret
    exact ⟨rfl, W2.out⟩
  obtain ⟨v0, hv0⟩ : ∃ v0, v0 = (enc h xs).getD j 0 := ⟨_, rfl⟩
  have hIE : IsB (enc h xs) := isB_enc hk hb1.2 (by omega)
  have hvb : 0 ≤ v0 ∧ v0 ≤ 255 := by rw [hv0]; exact getD_bd hIE j
  have OF : Hid (∀ z : Int, (z = 1 ∨ z = 2 ∨ z = 4 ∨ z = 8 ∨ z = 16 ∨ z = 32 ∨ z = 64 ∨ z = 128) → fault ((enc h xs).set j (bits .xor .u8 v0 z)) ≠ 0 ∧ 0 ≤ bits .xor .u8 v0 z ∧ bits .xor .u8 v0 z ≤ 255) := Lib.hid (fun z hz => by
    obtain ⟨o1, o2, o3⟩ := xor8_other hvb (show 0 ≤ z ∧ z ≤ 255 by omega) (show z ≠ 0 by omega)
    refine ⟨one_fault hk xs (by omega) (by omega) o2 o3 (by rw [← hv0]; exact o1) (fun e => ?_), o2, o3⟩
    have e0 : v0 = fbt h.alert := by rw [hv0, e]; exact first_enc h _ _
    rw [e0]; exact one_first hz)
  obtain ⟨zs, hzs⟩ : ∃ zs, zs = (enc h xs).set j (bits .xor .u8 v0 (2 ^ (y % 8).toNat % 256)) := ⟨_, rfl⟩
  obtain ⟨F, hF⟩ : ∃ F, F = fault zs := ⟨_, rfl⟩
  have ho := OF.out _ (pow_one y0)
  have hF0 : (F != 0) = true := by rw [hF, hzs, bne_iff_ne]; exact ho.1
  have HO := Lib.hid ho.2
  have HZS := Lib.hid hzs
  have DEC : Hid (∀ W g c, 20 + n1 ≤ c → Bs W (some ⟨g, 0, none⟩) zs → Calls Try.prog 12 #[.slice (some ⟨g, 0, none⟩) (20 + n1) c] W fun e w' => ∃ (hd : Hdr) (v : Value), e = .returned (.tuple #[.agg #[.int .u32 hd.src, .int .u32 hd.dst, .int .u8 hd.proto, .int .u8 hd.ttl, .int .u16 hd.id, .bool hd.alert], v, .int .i64 F]) ∧ Below W.heap.size W w') := Lib.hid (fun W g c hc hbs => by
    refine (iDecode _ (20 + n1) c zs W (by rw [hzs, List.length_set]; exact HEL.out) (by omega) hc hbs).mono ?_
    rw [← hF]
    rintro e w' ⟨v, rfl, -, hb⟩
    exact ⟨_, v, rfl, hb⟩)
  have HV0 := Lib.hid hv0
  have q6 : (j : Int) < ((20 + n1 : Nat) : Int) := by omega
  have q7 : j < 20 + n1 := by omega
  clear hk hal hx hb1 hnil1 hs hl hv0 hIE hzs hF ho
  go_enter Try.func7, Try.ntmps7
  go_wp2_with (first
    | (go_at_call 9; refine (iShown _).mono ?_; rintro e w1 ⟨rfl, hb⟩; have W1 := Lib.hid (BW0.out.trans (hb.mono BW0.out.size)); have BX1 := Lib.hid (BX0.out.keep hb); obtain ⟨k0, k1, k2, k3, k4, k5⟩ := BX1.out.cells; rw [HAL.out] at k5; clear hb)
    | (go_at_call 10; refine (ENO.out _ W1.out).mono ?_; rintro e w2 ⟨g, c, rfl, hgc, hg, hbx, hfz, hb⟩; have W2 := Lib.hid (W1.out.trans (hb.mono W1.out.size)); have BX2 := Lib.hid (BX1.out.keep hb); obtain ⟨l0, l1, l2, l3, l4, l5⟩ := BX2.out.cells; rw [HAL.out] at l5; have XX := Lib.hid hbx; have FZ := Lib.hid hfz; have cj : w2.cell? ⟨g, j, none⟩ = some (.int .u8 v0) := (by have := bs_cell hbx (k := j) (by rw [HEL.out]; omega); rw [Nat.zero_add, ← HV0.out] at this; exact this); have fj := hfz j q7; clear hb hbx hfz)
    | (go_at_call 12; refine (DEC.out _ g c hgc (by rw [HZS.out]; exact bs_set XX.out (by rw [HEL.out]; exact q7) HO.out.1 HO.out.2)).mono ?_; rintro e w3 ⟨hd, v, rfl, hb⟩; have W3 := Lib.hid ((W2.out.setCell (p := ⟨g, j, none⟩) (Nat.le_trans W1.out.size hg) _).trans (hb.mono (W2.out.setCell (p := ⟨g, j, none⟩) (Nat.le_trans W1.out.size hg) _).size)); clear hb))
  go_ret
  exact ⟨rfl, W3.out.alloc W3.out.size _⟩
set_option maxRecDepth 100000 in
set_option maxHeartbeats 4000000 in
theorem walk_t (w : World) (h : Hdr) (hk : h.ok) (hal : h.alert = true) (a1 : Option Addr) (n1 c1 : Nat) (xs : List Int) (hx : xs.length = n1) (hm1 : n1 ≤ 9223372036854775807) (hb1 : Bs w a1 xs) (hnil1 : a1 = none → n1 = 0 ∧ c1 = 0) (k : Int) (hkb : -9223372036854775808 ≤ k ∧ k ≤ 9223372036854775807) (y : Int) (hy : 0 ≤ y ∧ y ≤ 255) :
    Calls Try.prog 7 #[.agg #[.int .u32 h.src, .int .u32 h.dst, .int .u8 h.proto, .int .u8 h.ttl, .int .u16 h.id, .bool h.alert, .slice a1 n1 c1, .int .i64 k, .int .u8 y]] w fun e w' => e = .returned (.bool true) ∧ Below w.heap.size w w' := by
  obtain ⟨y0, y1⟩ := hy
  have HK := Lib.hid hk
  have HX := Lib.hid hx
  have HB1 := Lib.hid hb1
  have HN1 := Lib.hid hnil1
  have HAL := Lib.hid hal
  have BX0 : Hid (HBox ((w.alloc (.cells #[.int .u32 h.src, .int .u32 h.dst, .int .u8 h.proto, .int .u8 h.ttl, .int .u16 h.id, .bool h.alert, .slice a1 n1 c1, .int .i64 k, .int .u8 y] 45)).alloc (.cells #[.int .u32 h.src, .int .u32 h.dst, .int .u8 h.proto, .int .u8 h.ttl, .int .u16 h.id, .bool h.alert] 26)) (w.heap.size + 1) h) := Lib.hid (by
    have := HBox.new (w.alloc (.cells #[.int .u32 h.src, .int .u32 h.dst, .int .u8 h.proto, .int .u8 h.ttl, .int .u16 h.id, .bool h.alert, .slice a1 n1 c1, .int .i64 k, .int .u8 y] 45)) h
    rwa [World.size_alloc] at this)
  have BW0 : Hid (Below w.heap.size w ((w.alloc (.cells #[.int .u32 h.src, .int .u32 h.dst, .int .u8 h.proto, .int .u8 h.ttl, .int .u16 h.id, .bool h.alert, .slice a1 n1 c1, .int .i64 k, .int .u8 y] 45)).alloc (.cells #[.int .u32 h.src, .int .u32 h.dst, .int .u8 h.proto, .int .u8 h.ttl, .int .u16 h.id, .bool h.alert] 26))) := Lib.hid (((Below.refl _ w).alloc (Nat.le_refl _) _).alloc (by simp) _)
  have hs : hsz h.alert = 24 := by rw [hal]; rfl
  have HS := Lib.hid hs
  have HEL : Hid ((enc h xs).length = 24 + n1) := Lib.hid (by rw [enc_len, hx, hs])
  have EA0 := Lib.hid (fun (W : World) (hW : Below w.heap.size w W) => by
    have := iEncodeA h a1 n1 c1 xs W hk hx hm1 (bs_below hb1 hW) hnil1
    rw [hal] at this; exact this)
  by_cases q1 : 1400 < n1
  · by_cases q2 : 24 + n1 ≤ 1500
    · have ENA : Hid (∀ W, Below w.heap.size w W → Calls Try.prog 10 #[.agg #[.int .u32 h.src, .int .u32 h.dst, .int .u8 h.proto, .int .u8 h.ttl, .int .u16 h.id, .bool true], .slice a1 n1 c1] W fun e w' => ∃ ax lx cx, e = .returned (.tuple #[.slice ax lx cx, .int .i64 0]) ∧ Below W.heap.size W w') := Lib.hid (fun W hW => by
        refine (EA0.out W hW).mono ?_
        rw [show encE h xs = 0 from by unfold encE; rw [if_pos (by omega)]]
        rintro e w' ⟨v, rfl, ⟨ax, cx, rfl, -, -⟩, hb⟩
        exact ⟨ax, _, cx, rfl, hb⟩)
      clear hk hal hx hb1 hnil1 hs
      go_enter Try.func7, Try.ntmps7
      go_wp2_with (first
        | (go_at_call 9; refine (iShown _).mono ?_; rintro e w1 ⟨rfl, hb⟩; have W1 := Lib.hid (BW0.out.trans (hb.mono BW0.out.size)); have BX1 := Lib.hid (BX0.out.keep hb); obtain ⟨k0, k1, k2, k3, k4, k5⟩ := BX1.out.cells; rw [HAL.out] at k5; clear hb)
        | (go_at_call 10; refine (ENA.out _ W1.out).mono ?_; rintro e w2 ⟨ax, lx, cx, rfl, hb⟩; have W2 := Lib.hid (W1.out.trans (hb.mono W1.out.size)); have BX2 := Lib.hid (BX1.out.keep hb); obtain ⟨l0, l1, l2, l3, l4, l5⟩ := BX2.out.cells; rw [HAL.out] at l5; clear hb))
      go_ret
      exact ⟨rfl, W2.out⟩
    · have q3 : 1476 < n1 := by omega
      have d3 : decide ((1476 : Int) < (n1 : Int)) = true := decide_eq_true (by omega)
      have ENA : Hid (∀ W, Below w.heap.size w W → Calls Try.prog 10 #[.agg #[.int .u32 h.src, .int .u32 h.dst, .int .u8 h.proto, .int .u8 h.ttl, .int .u16 h.id, .bool true], .slice a1 n1 c1] W fun e w' => ∃ ax lx cx, e = .returned (.tuple #[.slice ax lx cx, .int .i64 7]) ∧ Below W.heap.size W w') := Lib.hid (fun W hW => by
        refine (EA0.out W hW).mono ?_
        rw [show encE h xs = 7 from by unfold encE; rw [if_neg (by omega)]]
        rintro e w' ⟨v, rfl, ⟨ax, cx, rfl, -, -⟩, hb⟩
        exact ⟨ax, _, cx, rfl, hb⟩)
      clear hk hal hx hb1 hnil1 hs
      go_enter Try.func7, Try.ntmps7
      go_wp2_with (first
        | (go_at_call 9; refine (iShown _).mono ?_; rintro e w1 ⟨rfl, hb⟩; have W1 := Lib.hid (BW0.out.trans (hb.mono BW0.out.size)); have BX1 := Lib.hid (BX0.out.keep hb); obtain ⟨k0, k1, k2, k3, k4, k5⟩ := BX1.out.cells; rw [HAL.out] at k5; clear hb)
        | (go_at_call 10; refine (ENA.out _ W1.out).mono ?_; rintro e w2 ⟨ax, lx, cx, rfl, hb⟩; have W2 := Lib.hid (W1.out.trans (hb.mono W1.out.size)); have BX2 := Lib.hid (BX1.out.keep hb); obtain ⟨l0, l1, l2, l3, l4, l5⟩ := BX2.out.cells; rw [HAL.out] at l5; clear hb))
      go_ret
      exact ⟨rfl, W2.out⟩
  have hl : hsz h.alert + n1 ≤ 1500 := by omega
  have ENO : Hid (∀ W, Below w.heap.size w W → Calls Try.prog 10 #[.agg #[.int .u32 h.src, .int .u32 h.dst, .int .u8 h.proto, .int .u8 h.ttl, .int .u16 h.id, .bool true], .slice a1 n1 c1] W fun e w' => ∃ g c, e = .returned (.tuple #[.slice (some ⟨g, 0, none⟩) (24 + n1) c, .int .i64 0]) ∧ 24 + n1 ≤ c ∧ W.heap.size ≤ g ∧ Bs w' (some ⟨g, 0, none⟩) (enc h xs) ∧ (∀ j, j < 24 + n1 → w'.frozen? ⟨g, j, none⟩ = false) ∧ Below W.heap.size W w') := Lib.hid (fun W hW => by
    have := iEncode h a1 n1 c1 xs W hk hx (bs_below hb1 hW) hnil1 hl
    rw [hal] at this
    refine this.mono ?_
    rintro e w' ⟨v, rfl, ⟨g, c, rfl, hg, hgc, hbx, hfz⟩, hb⟩
    rw [HEL.out] at hgc hfz ⊢
    exact ⟨g, c, rfl, hgc, hg, hbx, hfz, hb⟩)
  by_cases q4 : k < 0
  · clear hk hal hx hb1 hnil1 hs hl
    go_enter Try.func7, Try.ntmps7
    go_wp2_with (first
      | (go_at_call 9; refine (iShown _).mono ?_; rintro e w1 ⟨rfl, hb⟩; have W1 := Lib.hid (BW0.out.trans (hb.mono BW0.out.size)); have BX1 := Lib.hid (BX0.out.keep hb); obtain ⟨k0, k1, k2, k3, k4, k5⟩ := BX1.out.cells; rw [HAL.out] at k5; clear hb)
      | (go_at_call 10; refine (ENO.out _ W1.out).mono ?_; rintro e w2 ⟨g, c, rfl, hgc, hg, hbx, hfz, hb⟩; have W2 := Lib.hid (W1.out.trans (hb.mono W1.out.size)); have BX2 := Lib.hid (BX1.out.keep hb); obtain ⟨l0, l1, l2, l3, l4, l5⟩ := BX2.out.cells; rw [HAL.out] at l5; have XX := Lib.hid hbx; have FZ := Lib.hid hfz; clear hb hbx hfz))
    go_ret
    exact ⟨rfl, W2.out⟩
  obtain ⟨j, rfl⟩ := Int.eq_ofNat_of_zero_le (a := k) (by omega)
  by_cases q5 : 24 ≤ j
  · clear hk hal hx hb1 hnil1 hs hl
    go_enter Try.func7, Try.ntmps7
    go_wp2_with (first
      | (go_at_call 9; refine (iShown _).mono ?_; rintro e w1 ⟨rfl, hb⟩; have W1 := Lib.hid (BW0.out.trans (hb.mono BW0.out.size)); have BX1 := Lib.hid (BX0.out.keep hb); obtain ⟨k0, k1, k2, k3, k4, k5⟩ := BX1.out.cells; rw [HAL.out] at k5; clear hb)
      | (go_at_call 10; refine (ENO.out _ W1.out).mono ?_; rintro e w2 ⟨g, c, rfl, hgc, hg, hbx, hfz, hb⟩; have W2 := Lib.hid (W1.out.trans (hb.mono W1.out.size)); have BX2 := Lib.hid (BX1.out.keep hb); obtain ⟨l0, l1, l2, l3, l4, l5⟩ := BX2.out.cells; rw [HAL.out] at l5; have XX := Lib.hid hbx; have FZ := Lib.hid hfz; clear hb hbx hfz))
    go_ret
    exact ⟨rfl, W2.out⟩
  obtain ⟨v0, hv0⟩ : ∃ v0, v0 = (enc h xs).getD j 0 := ⟨_, rfl⟩
  have hIE : IsB (enc h xs) := isB_enc hk hb1.2 (by omega)
  have hvb : 0 ≤ v0 ∧ v0 ≤ 255 := by rw [hv0]; exact getD_bd hIE j
  have OF : Hid (∀ z : Int, (z = 1 ∨ z = 2 ∨ z = 4 ∨ z = 8 ∨ z = 16 ∨ z = 32 ∨ z = 64 ∨ z = 128) → fault ((enc h xs).set j (bits .xor .u8 v0 z)) ≠ 0 ∧ 0 ≤ bits .xor .u8 v0 z ∧ bits .xor .u8 v0 z ≤ 255) := Lib.hid (fun z hz => by
    obtain ⟨o1, o2, o3⟩ := xor8_other hvb (show 0 ≤ z ∧ z ≤ 255 by omega) (show z ≠ 0 by omega)
    refine ⟨one_fault hk xs (by omega) (by omega) o2 o3 (by rw [← hv0]; exact o1) (fun e => ?_), o2, o3⟩
    have e0 : v0 = fbt h.alert := by rw [hv0, e]; exact first_enc h _ _
    rw [e0]; exact one_first hz)
  obtain ⟨zs, hzs⟩ : ∃ zs, zs = (enc h xs).set j (bits .xor .u8 v0 (2 ^ (y % 8).toNat % 256)) := ⟨_, rfl⟩
  obtain ⟨F, hF⟩ : ∃ F, F = fault zs := ⟨_, rfl⟩
  have ho := OF.out _ (pow_one y0)
  have hF0 : (F != 0) = true := by rw [hF, hzs, bne_iff_ne]; exact ho.1
  have HO := Lib.hid ho.2
  have HZS := Lib.hid hzs
  have DEC : Hid (∀ W g c, 24 + n1 ≤ c → Bs W (some ⟨g, 0, none⟩) zs → Calls Try.prog 12 #[.slice (some ⟨g, 0, none⟩) (24 + n1) c] W fun e w' => ∃ (hd : Hdr) (v : Value), e = .returned (.tuple #[.agg #[.int .u32 hd.src, .int .u32 hd.dst, .int .u8 hd.proto, .int .u8 hd.ttl, .int .u16 hd.id, .bool hd.alert], v, .int .i64 F]) ∧ Below W.heap.size W w') := Lib.hid (fun W g c hc hbs => by
    refine (iDecode _ (24 + n1) c zs W (by rw [hzs, List.length_set]; exact HEL.out) (by omega) hc hbs).mono ?_
    rw [← hF]
    rintro e w' ⟨v, rfl, -, hb⟩
    exact ⟨_, v, rfl, hb⟩)
  have HV0 := Lib.hid hv0
  have q6 : (j : Int) < ((24 + n1 : Nat) : Int) := by omega
  have q7 : j < 24 + n1 := by omega
  clear hk hal hx hb1 hnil1 hs hl hv0 hIE hzs hF ho
  go_enter Try.func7, Try.ntmps7
  go_wp2_with (first
    | (go_at_call 9; refine (iShown _).mono ?_; rintro e w1 ⟨rfl, hb⟩; have W1 := Lib.hid (BW0.out.trans (hb.mono BW0.out.size)); have BX1 := Lib.hid (BX0.out.keep hb); obtain ⟨k0, k1, k2, k3, k4, k5⟩ := BX1.out.cells; rw [HAL.out] at k5; clear hb)
    | (go_at_call 10; refine (ENO.out _ W1.out).mono ?_; rintro e w2 ⟨g, c, rfl, hgc, hg, hbx, hfz, hb⟩; have W2 := Lib.hid (W1.out.trans (hb.mono W1.out.size)); have BX2 := Lib.hid (BX1.out.keep hb); obtain ⟨l0, l1, l2, l3, l4, l5⟩ := BX2.out.cells; rw [HAL.out] at l5; have XX := Lib.hid hbx; have FZ := Lib.hid hfz; have cj : w2.cell? ⟨g, j, none⟩ = some (.int .u8 v0) := (by have := bs_cell hbx (k := j) (by rw [HEL.out]; omega); rw [Nat.zero_add, ← HV0.out] at this; exact this); have fj := hfz j q7; clear hb hbx hfz)
    | (go_at_call 12; refine (DEC.out _ g c hgc (by rw [HZS.out]; exact bs_set XX.out (by rw [HEL.out]; exact q7) HO.out.1 HO.out.2)).mono ?_; rintro e w3 ⟨hd, v, rfl, hb⟩; have W3 := Lib.hid ((W2.out.setCell (p := ⟨g, j, none⟩) (Nat.le_trans W1.out.size hg) _).trans (hb.mono (W2.out.setCell (p := ⟨g, j, none⟩) (Nat.le_trans W1.out.size hg) _).size)); clear hb))
  go_ret
  exact ⟨rfl, W3.out.alloc W3.out.size _⟩
theorem walk (w : World) (h : Hdr) (hk : h.ok) (a1 : Option Addr) (n1 c1 : Nat) (xs : List Int) (hx : xs.length = n1) (hm1 : n1 ≤ 9223372036854775807) (hb1 : Bs w a1 xs) (hnil1 : a1 = none → n1 = 0 ∧ c1 = 0) (k : Int) (hkb : -9223372036854775808 ≤ k ∧ k ≤ 9223372036854775807) (y : Int) (hy : 0 ≤ y ∧ y ≤ 255) :
    Calls Try.prog 7 #[.agg #[.int .u32 h.src, .int .u32 h.dst, .int .u8 h.proto, .int .u8 h.ttl, .int .u16 h.id, .bool h.alert, .slice a1 n1 c1, .int .i64 k, .int .u8 y]] w fun e w' => e = .returned (.bool true) ∧ Below w.heap.size w w' := by
  cases e : h.alert
  · have := walk_f w h hk e a1 n1 c1 xs hx hm1 hb1 hnil1 k hkb y hy
    rw [e] at this; exact this
  · have := walk_t w h hk e a1 n1 c1 xs hx hm1 hb1 hnil1 k hkb y hy
    rw [e] at this; exact this

theorem contract (H : Type) (enc : TypeId × Value → H) (W : World) (base : Nat) (args : Array Value) (ds gs : List (DataW H)) (before : List MemPlace)
    (hval : ∀ (j : Nat) t v, Try.f7.params[j]? = some t → args[j]? = some v → Value.okWide Try.prog W .any base t v)
    (hW : DataW.Whole enc Try.prog Try.f7.params.toList Rows.ipOneSpec.vars false W args.toList ds gs before) :
    Calls Try.prog 7 args W fun e W' => ∃ v, e = .returned v ∧ Rows.ipOneSpec.post enc Try.prog Try.f7 false true false false W args v W' := by
  have hW' := hW
  obtain ⟨p, q, hA0, hV, rfl, hfz, hnd⟩ := hW
  have hA : DataW.TrodAll enc Try.prog W 0 (fun _ => true) true Try.f7.params.toList args.toList ds p := hA0
  rw [Try.params7] at hA hval
  obtain ⟨v0, vs0, d0, ds0, p0, q0, hargs, rfl, rfl, h0, r0⟩ := trodAll_cons hA
  obtain ⟨rfl, rfl, rfl⟩ := trodAll_nil r0
  obtain rfl : args = #[v0] := by cases args; simp_all
  obtain ⟨rfl, rfl⟩ := trodVars_none hV
  have k0 := h0
  have lt0 : ∀ x ∈ p0, x.block < W.heap.size := by obtain ⟨m, hm⟩ := k0; exact DataW.trod_lt m _ _ _ hm
  obtain ⟨hd0, a0, len0, cap0, z0, at0, y0, rfl, ok0, w0, wa0, wy0⟩ := open_one (hval 0 45 v0 rfl rfl) h0
  obtain ⟨b0, l0, m0⟩ := bs_of_row w0
  clear hA0
  refine (walk W hd0 ok0 a0 len0 cap0 (z0.take len0) l0 m0 b0 (nil_of_row w0) at0 wa0 y0 wy0).mono fun e W' ⟨he, bel⟩ => ?_
  subst he
  exact ⟨_, rfl, _, _, _, [], _, [], hW', trodAll_mk1 (shut_bool Try.underlying4 _), (trodAll_cons_mk (Below.trod laidOut (by kernel_rfl) (of_decide_eq_true (by kernel_rfl)) k0 bel lt0) trodAll_mk0), rfl, bel.frame _, fun h => by cases h⟩

set_option maxRecDepth 100000 in
theorem lifted (os : Os) (started : os.Started) (H : Type) (enc : TypeId × Value → H) :
    ReturnsInHanded {} Try.checked os 7 .any (Rows.ipOneSpec.pre6 enc Try.prog Try.f7 Rows.ipOneRow.domain false) (Rows.ipOneSpec.post enc Try.prog Try.f7 false true false false) := by
  refine returnsInHanded_of_change (C := Try.checked) own started (by kernel_rfl) Try.func7
    (ChangeSpec.witness6 (enc := enc) (C := Try.checked) false ⟨#[], #[(.agg #[.int .u32 0, .int .u32 0, .int .u8 0, .int .u8 0, .int .u16 0, .bool false, .slice none 0 0, .int .i64 0, .int .u8 0])], []⟩ 8 (by kernel_rfl) (by kernel_rfl) (by kernel_rfl) (by kernel_rfl)) ?_
  intro W base args ds gs before hval hW hcnd _
  exact contract H enc W base args ds gs before hval hW
theorem said : Rows.IpOneSaid :=
  OpenClaim.holds_of_wide 7 Try.f7 rfl rfl rfl rfl rfl rfl rfl ⟨rfl, rfl, rfl, rfl, rfl⟩ rfl rfl rfl rfl rfl (by kernel_rfl) Try.func7 (by kernel_rfl)
    (of_decide_eq_true (by kernel_rfl)) (by unfold Func.isWrapper; first | (rw [if_pos (by decide +kernel)]; kernel_rfl) | (rw [if_neg (by decide +kernel)]; exact ⟨rfl, rfl⟩))
    (fun os started H enc _ => lifted os started H enc)
#print axioms said
end Go.Proofs.Ythmejokjbkkfbaa.ipOne
