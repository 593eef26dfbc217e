/- Contracts of the document's own answers for frames (stolonref04): Encode. -/
import Derived.Test.YthmejokjbkkfbaaIb
import Derived.Test.YthmejokjbkkfbaaSf
namespace Go.Proofs.Ythmejokjbkkfbaa
set_option linter.unusedVariables false
open Go.RowKit

theorem ow_new (w : World) (B n : Nat) (xs : List Int) (hB : B ≤ w.heap.size) (hl : xs.length = n) (hn : n ≤ 1000000) : Ow (w.alloc (.cells (vb xs).toArray 5)) B (some ⟨w.heap.size, 0, none⟩) n n xs :=
  ⟨⟨by rw [vb_len, hl]; omega, .inr ⟨w.heap.size, n, (vb xs).toArray, rfl, hB, Go.Deep.blk_alloc_new _ _, Nat.le_refl _, by unfold maxLen; omega, by rw [List.size_toArray, vb_len, hl]; omega, List.take_of_length_le (by show (vb xs).length ≤ _; rw [vb_len, hl]; omega)⟩⟩, hl⟩
theorem Ow.some {w : World} {B n cap : Nat} {a : Option Addr} {xs : List Int} (h : Ow w B a n cap xs) (hn : 0 < n) : ∃ g, a = some ⟨g, 0, none⟩ ∧ B ≤ g ∧ n ≤ cap := by
  rcases h.1.2 with ⟨_, e⟩ | ⟨g, c, cur, e, hB, _, hnc, _⟩
  · omega
  · simp at e; exact ⟨g, e.1, hB, by rw [e.2]; exact hnc⟩
theorem ow_fs {w : World} {B n cap : Nat} {a : Option Addr} {xs : List Int} (h : Ow w B a n cap xs) (hn : 0 < n) (hb : IsB xs) : Fs w B (.slice a n cap) xs := by
  obtain ⟨g, rfl, hB, hog⟩ := h.og hn
  obtain ⟨_, _, _, hnc⟩ := h.some hn
  exact ⟨g, cap, by rw [h.2], hB, by rw [h.2]; exact hnc, hog.bs hb, fun k _ => hog.frozen k⟩
theorem rEncode_no (h : Hdr) (a : Option Addr) (n c : Nat) (w : World) (hm : n ≤ 1000000) (hl : 1500 < hsz h.alert + n) :
    Calls Try.prog 11 #[.agg #[.int .u32 h.src, .int .u32 h.dst, .int .u8 h.proto, .int .u8 h.ttl, .int .u16 h.id, .bool h.alert], .slice a n c] w fun e w' => e = .returned (.tuple #[.slice none 0 0, .int .i64 7]) ∧ Below w.heap.size w w' := by
  obtain ⟨s, d, p, t, i, al⟩ := h
  cases al
  all_goals
    simp only [hsz] at hl
    simp at hl
    go_enter Try.func11, Try.ntmps11
    go_wp2_with fail
    go_ret2
    exact ⟨rfl, (Below.refl _ w).alloc (Nat.le_refl _) _⟩
/-- Encode's parts, one behind the other. -/
def out0 (h : Hdr) (all : Int) : List Int := [fbt h.alert, 0, all / 256, all % 256, h.id / 256, h.id % 256, 0, 0, h.ttl, h.proto, 0, 0]
theorem base_out (h : Hdr) (all : Int) : base h all = out0 h all ++ l4 h.src ++ l4 h.dst := rfl

theorem bs4 (W : World) (x : Int) (hx : 0 ≤ x ∧ x ≤ 4294967295) : Bs (W.alloc (bytes4 x)) (some ⟨W.heap.size, 0, none⟩) (l4 x) := (Ob.of_heap (xs := l4 x) (World.alloc_heap_new _ _)).bs (isB_l4 hx)
theorem bsAl (W : World) : Bs (W.alloc (.cells #[.int .u8 148, .int .u8 4, .int .u8 0, .int .u8 0] 5)) (some ⟨W.heap.size, 0, none⟩) alertL := (Ob.of_heap (xs := alertL) (World.alloc_heap_new _ _)).bs isB_alert

set_option maxHeartbeats 2000000 in
theorem rEncode_f (s d p t i : Int) (a : Option Addr) (n c : Nat) (xs : List Int) (w : World) (hk : (⟨s, d, p, t, i, false⟩ : Hdr).ok) (hx : xs.length = n) (hb : Bs w a xs) (hnil : a = none → n = 0 ∧ c = 0) (hl : 20 + n ≤ 1500) :
    Calls Try.prog 11 #[.agg #[.int .u32 s, .int .u32 d, .int .u8 p, .int .u8 t, .int .u16 i, .bool false], .slice a n c] w fun e w' => ∃ v, e = .returned (.tuple #[v, .int .i64 0]) ∧ Fs w' w.heap.size v (enc (⟨s, d, p, t, i, false⟩ : Hdr) xs) ∧ Below w.heap.size w w' := by
  have HI := Lib.hid (isB_base hk (all := (20 + (n : Int))) (by omega) (by omega))
  have HRB := Lib.hid (isB_hraw hk (all := (20 + (n : Int))) (by omega) (by omega))
  obtain ⟨⟨s0, s1⟩, ⟨d0, d1⟩, ⟨p0, p1⟩, ⟨t0, t1⟩, i0, i1⟩ := hk
  simp only at s0 s1 d0 d1 p0 p1 t0 t1 i0 i1
  have HE : Hid (enc (⟨s, d, p, t, i, false⟩ : Hdr) xs = putS (hraw (⟨s, d, p, t, i, false⟩ : Hdr) (20 + (n : Int))) 10 ++ xs) := Lib.hid (by unfold enc hbytes; rw [hx]; rfl)
  have HX := Lib.hid hx
  have HB := Lib.hid hb
  have HN := Lib.hid hnil
  have DV := Lib.hid (div256 i0 i1)
  obtain ⟨W1, hW1⟩ : ∃ W1, W1 = w.alloc (.cells #[.int .u32 s, .int .u32 d, .int .u8 p, .int .u8 t, .int .u16 i, .bool false] 26) := ⟨_, rfl⟩
  have HW1 := Lib.hid hW1
  have sz1 : W1.heap.size = w.heap.size + 1 := by rw [hW1]; simp
  have SZ1 := Lib.hid sz1
  have BW1 : Hid (Below w.heap.size w W1) := Lib.hid (by rw [hW1]; exact (Below.refl _ w).alloc (Nat.le_refl _) _)
  obtain ⟨W2, hW2, OW2, BW2⟩ : ∃ W2, (w.alloc (.cells #[.int .u32 s, .int .u32 d, .int .u8 p, .int .u8 t, .int .u16 i, .bool false] 26)).alloc (.cells #[.int .u8 69, .int .u8 0, .int .u8 ((20 + (n : Int)) / 256), .int .u8 ((20 + (n : Int)) % 256), .int .u8 (i / 256), .int .u8 (i % 256), .int .u8 0, .int .u8 0, .int .u8 t, .int .u8 p, .int .u8 0, .int .u8 0] 5) = W2 ∧ Hid (Ow W2 W1.heap.size (some ⟨w.heap.size + 1, 0, none⟩) 12 12 (out0 (⟨s, d, p, t, i, false⟩ : Hdr) (20 + (n : Int)))) ∧ Hid (Below W1.heap.size W1 W2) := by
    refine ⟨_, rfl, Lib.hid ?_, Lib.hid ?_⟩
    · rw [← hW1, ← sz1]; exact ow_new W1 W1.heap.size 12 (out0 (⟨s, d, p, t, i, false⟩ : Hdr) (20 + (n : Int))) (Nat.le_refl _) rfl (by omega)
    · rw [← hW1]; exact (Below.refl _ W1).alloc (Nat.le_refl _) _
  have HW2 := Lib.hid hW2
  obtain ⟨c0, c1, c2, c3, c4, c5⟩ := box_cells (h := (⟨s, d, p, t, i, false⟩ : Hdr)) hW1 BW2.out
  simp only at c0 c1 c2 c3 c4 c5
  clear hW1 hW2 hx hb hnil sz1
  go_enter Try.func11, Try.ntmps11
  go_wp2_with (first
    | (go_at_call_of 21 (Value.int IntKind.u32 s); rw [DV.out, HW2.out]; refine (rBytes s _ s0 s1).mono ?_; rintro e w2 ⟨rfl, rfl⟩)
    | ((with_reducible refine wpList_app_bs rfl (.tmp 42) (.tmp 45) rfl W1.heap.size (some ⟨w.heap.size + 1, 0, none⟩) 12 12 (out0 (⟨s, d, p, t, i, false⟩ : Hdr) (20 + (n : Int))) rfl (OW2.out.alloc _) (some ⟨W2.heap.size, 0, none⟩) 4 4 (l4 s) rfl rfl (bs4 _ _ ⟨s0, s1⟩) (fun e => by cases e) (by omega) W1 ((BW2.out.alloc BW2.out.size _).size) (BW2.out.alloc BW2.out.size _) ?_); intro a3 cap3 W3 OW3 hb3; have BW3 := Lib.hid hb3; obtain ⟨k0, k1, k2, k3, k4, k5⟩ := box_cells (h := (⟨s, d, p, t, i, false⟩ : Hdr)) HW1.out hb3; simp only at k0 k1 k2 k3 k4 k5; clear hb3)
    | (go_at_call_of 21 (Value.int IntKind.u32 d); refine (rBytes d _ d0 d1).mono ?_; rintro e w2 ⟨rfl, rfl⟩)
    | ((with_reducible refine wpList_app_bs rfl (.tmp 47) (.tmp 50) rfl W1.heap.size a3 16 cap3 (out0 (⟨s, d, p, t, i, false⟩ : Hdr) (20 + (n : Int)) ++ l4 s) rfl (OW3.out.alloc _) (some ⟨W3.heap.size, 0, none⟩) 4 4 (l4 d) rfl rfl (bs4 _ _ ⟨d0, d1⟩) (fun e => by cases e) (by omega) W1 ((BW3.out.alloc BW3.out.size _).size) (BW3.out.alloc BW3.out.size _) ?_); intro a4 cap4 W4 OW4 hb4; have BW4 := Lib.hid hb4; obtain ⟨l0, l1, l2, l3, l4', l5⟩ := box_cells (h := (⟨s, d, p, t, i, false⟩ : Hdr)) HW1.out hb4; simp only at l0 l1 l2 l3 l4' l5; clear hb4)
    | (go_at_call 22; refine (rPutO_ok a4 20 cap4 10 (hraw (⟨s, d, p, t, i, false⟩ : Hdr) (20 + (n : Int))) _ (by omega) (hraw_len _ _) (Ow.bs (show Ow W4 W1.heap.size a4 20 cap4 (hraw (⟨s, d, p, t, i, false⟩ : Hdr) (20 + (n : Int))) from by rw [show hraw (⟨s, d, p, t, i, false⟩ : Hdr) (20 + (n : Int)) = base (⟨s, d, p, t, i, false⟩ : Hdr) (20 + (n : Int)) from by unfold hraw; simp]; exact OW4.out) HRB.out) rfl (by omega)).mono ?_; rintro e W6 ⟨g, cap6, rfl, -, hg6, hb6, ow6⟩; have OW6 := Lib.hid ow6; have BW6 := Lib.hid hb6; clear hb6 ow6)
    | ((with_reducible refine wpList_app_bs rfl (.tmp 62) (.tmp 63) rfl W4.heap.size (some ⟨g, 0, none⟩) 20 cap6 (putS (hraw (⟨s, d, p, t, i, false⟩ : Hdr) (20 + (n : Int))) 10) rfl OW6.out a n c xs rfl HX.out (bs_below HB.out ((BW1.out.trans (BW4.out.mono BW1.out.size)).trans (BW6.out.mono (BW1.out.trans (BW4.out.mono BW1.out.size)).size))) HN.out (by omega) W4 BW6.out.size BW6.out ?_); intro a7 cap7 W7 OW7 hb7; have BW7 := Lib.hid hb7; clear hb7))
  go_ret2
  have ha : Below w.heap.size w W4 := BW1.out.trans (BW4.out.mono BW1.out.size)
  refine ⟨_, rfl, ?_, ha.trans (BW7.out.mono ha.size)⟩
  rw [HE.out]
  exact (ow_fs OW7.out (by omega) (isB_append (isB_putS HRB.out 10) HB.out.2)).up ha.size
set_option maxHeartbeats 2000000 in
theorem rEncode_t (s d p t i : Int) (a : Option Addr) (n c : Nat) (xs : List Int) (w : World) (hk : (⟨s, d, p, t, i, true⟩ : Hdr).ok) (hx : xs.length = n) (hb : Bs w a xs) (hnil : a = none → n = 0 ∧ c = 0) (hl : 24 + n ≤ 1500) :
    Calls Try.prog 11 #[.agg #[.int .u32 s, .int .u32 d, .int .u8 p, .int .u8 t, .int .u16 i, .bool true], .slice a n c] w fun e w' => ∃ v, e = .returned (.tuple #[v, .int .i64 0]) ∧ Fs w' w.heap.size v (enc (⟨s, d, p, t, i, true⟩ : Hdr) xs) ∧ Below w.heap.size w w' := by
  have HI := Lib.hid (isB_base hk (all := (24 + (n : Int))) (by omega) (by omega))
  have HRB := Lib.hid (isB_hraw hk (all := (24 + (n : Int))) (by omega) (by omega))
  obtain ⟨⟨s0, s1⟩, ⟨d0, d1⟩, ⟨p0, p1⟩, ⟨t0, t1⟩, i0, i1⟩ := hk
  simp only at s0 s1 d0 d1 p0 p1 t0 t1 i0 i1
  have HE : Hid (enc (⟨s, d, p, t, i, true⟩ : Hdr) xs = putS (hraw (⟨s, d, p, t, i, true⟩ : Hdr) (24 + (n : Int))) 10 ++ xs) := Lib.hid (by unfold enc hbytes; rw [hx]; rfl)
  have HX := Lib.hid hx
  have HB := Lib.hid hb
  have HN := Lib.hid hnil
  have DV := Lib.hid (div256 i0 i1)
  obtain ⟨W1, hW1⟩ : ∃ W1, W1 = w.alloc (.cells #[.int .u32 s, .int .u32 d, .int .u8 p, .int .u8 t, .int .u16 i, .bool true] 26) := ⟨_, rfl⟩
  have HW1 := Lib.hid hW1
  have sz1 : W1.heap.size = w.heap.size + 1 := by rw [hW1]; simp
  have SZ1 := Lib.hid sz1
  have BW1 : Hid (Below w.heap.size w W1) := Lib.hid (by rw [hW1]; exact (Below.refl _ w).alloc (Nat.le_refl _) _)
  obtain ⟨W2, hW2, OW2, BW2⟩ : ∃ W2, (w.alloc (.cells #[.int .u32 s, .int .u32 d, .int .u8 p, .int .u8 t, .int .u16 i, .bool true] 26)).alloc (.cells #[.int .u8 70, .int .u8 0, .int .u8 ((24 + (n : Int)) / 256), .int .u8 ((24 + (n : Int)) % 256), .int .u8 (i / 256), .int .u8 (i % 256), .int .u8 0, .int .u8 0, .int .u8 t, .int .u8 p, .int .u8 0, .int .u8 0] 5) = W2 ∧ Hid (Ow W2 W1.heap.size (some ⟨w.heap.size + 1, 0, none⟩) 12 12 (out0 (⟨s, d, p, t, i, true⟩ : Hdr) (24 + (n : Int)))) ∧ Hid (Below W1.heap.size W1 W2) := by
    refine ⟨_, rfl, Lib.hid ?_, Lib.hid ?_⟩
    · rw [← hW1, ← sz1]; exact ow_new W1 W1.heap.size 12 (out0 (⟨s, d, p, t, i, true⟩ : Hdr) (24 + (n : Int))) (Nat.le_refl _) rfl (by omega)
    · rw [← hW1]; exact (Below.refl _ W1).alloc (Nat.le_refl _) _
  have HW2 := Lib.hid hW2
  obtain ⟨c0, c1, c2, c3, c4, c5⟩ := box_cells (h := (⟨s, d, p, t, i, true⟩ : Hdr)) hW1 BW2.out
  simp only at c0 c1 c2 c3 c4 c5
  clear hW1 hW2 hx hb hnil sz1
  go_enter Try.func11, Try.ntmps11
  go_wp2_with (first
    | (go_at_call_of 21 (Value.int IntKind.u32 s); rw [DV.out, HW2.out]; refine (rBytes s _ s0 s1).mono ?_; rintro e w2 ⟨rfl, rfl⟩)
    | ((with_reducible refine wpList_app_bs rfl (.tmp 42) (.tmp 45) rfl W1.heap.size (some ⟨w.heap.size + 1, 0, none⟩) 12 12 (out0 (⟨s, d, p, t, i, true⟩ : Hdr) (24 + (n : Int))) rfl (OW2.out.alloc _) (some ⟨W2.heap.size, 0, none⟩) 4 4 (l4 s) rfl rfl (bs4 _ _ ⟨s0, s1⟩) (fun e => by cases e) (by omega) W1 ((BW2.out.alloc BW2.out.size _).size) (BW2.out.alloc BW2.out.size _) ?_); intro a3 cap3 W3 OW3 hb3; have BW3 := Lib.hid hb3; obtain ⟨k0, k1, k2, k3, k4, k5⟩ := box_cells (h := (⟨s, d, p, t, i, true⟩ : Hdr)) HW1.out hb3; simp only at k0 k1 k2 k3 k4 k5; clear hb3)
    | (go_at_call_of 21 (Value.int IntKind.u32 d); refine (rBytes d _ d0 d1).mono ?_; rintro e w2 ⟨rfl, rfl⟩)
    | ((with_reducible refine wpList_app_bs rfl (.tmp 47) (.tmp 50) rfl W1.heap.size a3 16 cap3 (out0 (⟨s, d, p, t, i, true⟩ : Hdr) (24 + (n : Int)) ++ l4 s) rfl (OW3.out.alloc _) (some ⟨W3.heap.size, 0, none⟩) 4 4 (l4 d) rfl rfl (bs4 _ _ ⟨d0, d1⟩) (fun e => by cases e) (by omega) W1 ((BW3.out.alloc BW3.out.size _).size) (BW3.out.alloc BW3.out.size _) ?_); intro a4 cap4 W4 OW4 hb4; have BW4 := Lib.hid hb4; obtain ⟨l0, l1, l2, l3, l4', l5⟩ := box_cells (h := (⟨s, d, p, t, i, true⟩ : Hdr)) HW1.out hb4; simp only at l0 l1 l2 l3 l4' l5; clear hb4)
    | ((with_reducible refine wpList_app_bs rfl (.tmp 54) (.tmp 55) rfl W1.heap.size a4 20 cap4 (base (⟨s, d, p, t, i, true⟩ : Hdr) (24 + (n : Int))) rfl (OW4.out.alloc _) (some ⟨W4.heap.size, 0, none⟩) 4 4 alertL rfl rfl (bsAl _) (fun e => by cases e) (by omega) W1 ((BW4.out.alloc BW4.out.size _).size) (BW4.out.alloc BW4.out.size _) ?_); intro a5 cap5 W5 OW5 hb5; have BW5 := Lib.hid hb5; clear hb5)
    | (go_at_call 22; refine (rPutO_ok a5 24 cap5 10 (hraw (⟨s, d, p, t, i, true⟩ : Hdr) (24 + (n : Int))) _ (by omega) (hraw_len _ _) (Ow.bs (show Ow W5 W1.heap.size a5 24 cap5 (hraw (⟨s, d, p, t, i, true⟩ : Hdr) (24 + (n : Int))) from by rw [show hraw (⟨s, d, p, t, i, true⟩ : Hdr) (24 + (n : Int)) = base (⟨s, d, p, t, i, true⟩ : Hdr) (24 + (n : Int)) ++ alertL from by unfold hraw; simp]; exact OW5.out) HRB.out) rfl (by omega)).mono ?_; rintro e W6 ⟨g, cap6, rfl, -, hg6, hb6, ow6⟩; have OW6 := Lib.hid ow6; have BW6 := Lib.hid hb6; clear hb6 ow6)
    | ((with_reducible refine wpList_app_bs rfl (.tmp 62) (.tmp 63) rfl W5.heap.size (some ⟨g, 0, none⟩) 24 cap6 (putS (hraw (⟨s, d, p, t, i, true⟩ : Hdr) (24 + (n : Int))) 10) rfl OW6.out a n c xs rfl HX.out (bs_below HB.out ((BW1.out.trans (BW5.out.mono BW1.out.size)).trans (BW6.out.mono (BW1.out.trans (BW5.out.mono BW1.out.size)).size))) HN.out (by omega) W5 BW6.out.size BW6.out ?_); intro a7 cap7 W7 OW7 hb7; have BW7 := Lib.hid hb7; clear hb7))
  go_ret2
  have ha : Below w.heap.size w W5 := BW1.out.trans (BW5.out.mono BW1.out.size)
  refine ⟨_, rfl, ?_, ha.trans (BW7.out.mono ha.size)⟩
  rw [HE.out]
  exact (ow_fs OW7.out (by omega) (isB_append (isB_putS HRB.out 10) HB.out.2)).up ha.size
theorem rEncode (h : Hdr) (a : Option Addr) (n c : Nat) (xs : List Int) (w : World) (hk : h.ok) (hx : xs.length = n) (hb : Bs w a xs) (hnil : a = none → n = 0 ∧ c = 0) (hl : hsz h.alert + n ≤ 1500) :
    Calls Try.prog 11 #[.agg #[.int .u32 h.src, .int .u32 h.dst, .int .u8 h.proto, .int .u8 h.ttl, .int .u16 h.id, .bool h.alert], .slice a n c] w fun e w' => ∃ v, e = .returned (.tuple #[v, .int .i64 0]) ∧ Fs w' w.heap.size v (enc h xs) ∧ Below w.heap.size w w' := by
  obtain ⟨s, d, p, t, i, al⟩ := h
  cases al
  · exact rEncode_f s d p t i a n c xs w hk hx hb hnil hl
  · exact rEncode_t s d p t i a n c xs w hk hx hb hnil hl
end Go.Proofs.Ythmejokjbkkfbaa
