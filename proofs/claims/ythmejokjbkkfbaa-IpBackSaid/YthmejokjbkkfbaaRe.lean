/- Contracts of the document's own answers for frames (stolonref04): Decode and Passed, whatever comes in. -/
import Derived.Test.YthmejokjbkkfbaaRd
namespace Go.Proofs.Ythmejokjbkkfbaa
set_option linter.unusedVariables false
open Go.RowKit

theorem rDecode (a : Option Addr) (n c : Nat) (xs : List Int) (w : World) (hx : xs.length = n) (hn : n ≤ 1000000) (hnc : n ≤ c) (hb : Bs w a xs) :
    Calls Try.prog 13 #[.slice a n c] w fun e w' => ∃ v, e = .returned (.tuple #[.agg #[.int .u32 (decH xs).src, .int .u32 (decH xs).dst, .int .u8 (decH xs).proto, .int .u8 (decH xs).ttl, .int .u16 (decH xs).id, .bool (decH xs).alert], v, .int .i64 (fault xs)]) ∧ Sl w' v (decB xs) ∧ Below w.heap.size w w' := by
  show Calls Try.prog 13 #[.slice a n c] w (DPost xs w)
  by_cases h20 : n < 20
  · exact rDecode1 a n c xs w hx h20
  obtain ⟨b, off, rfl⟩ := bs_at hb (by omega)
  have h20' : 20 ≤ n := by omega
  by_cases h69 : xs.getD 0 0 = 69
  · by_cases h4 : ofs (xs.take 20) = 0
    · exact rDecode5_20 b off n c xs w hx hn hnc h20' hb h69 h20' h4
    · exact rDecode4_20 b off n c xs w hx hn hnc h20' hb h69 h20' h4
  · by_cases h70 : xs.getD 0 0 = 70
    · by_cases h24 : n < 24
      · exact rDecode3 b off n c xs w hx h20' hb h70 h24
      · by_cases h4 : ofs (xs.take 24) = 0
        · exact rDecode5_24 b off n c xs w hx hn hnc h20' hb h70 (by omega) h4
        · exact rDecode4_24 b off n c xs w hx hn hnc h20' hb h70 (by omega) h4
    · exact rDecode2 b off n c xs w hx h20' hb h69 h70
theorem rl_nil (w : World) : Sl w (.slice none 0 0) [] := ⟨none, 0, rfl, ⟨.inl rfl, isB_nil⟩, fun _ => ⟨rfl, rfl⟩⟩
theorem rEncodeA (h : Hdr) (a : Option Addr) (n c : Nat) (xs : List Int) (w : World) (hk : h.ok) (hx : xs.length = n) (hm : n ≤ 1000000) (hb : Bs w a xs) (hnil : a = none → n = 0 ∧ c = 0) :
    Calls Try.prog 11 #[.agg #[.int .u32 h.src, .int .u32 h.dst, .int .u8 h.proto, .int .u8 h.ttl, .int .u16 h.id, .bool h.alert], .slice a n c] w fun e w' => ∃ v, e = .returned (.tuple #[v, .int .i64 (encE h xs)]) ∧ Sl w' v (encB h xs) ∧ Below w.heap.size w w' := by
  unfold encE encB
  by_cases hl : hsz h.alert + xs.length ≤ 1500
  · rw [if_pos hl, if_pos hl]
    refine (rEncode h a n c xs w hk hx hb hnil (by omega)).mono ?_
    rintro e w' ⟨v, rfl, hf, hb1⟩
    exact ⟨v, rfl, hf.sl, hb1⟩
  · rw [if_neg hl, if_neg hl]
    refine (rEncode_no h a n c w hm (by omega)).mono ?_
    rintro e w' ⟨rfl, hb1⟩
    exact ⟨_, rfl, rl_nil _, hb1⟩
set_option maxHeartbeats 1000000 in
theorem rPassed (a : Option Addr) (n c : Nat) (xs : List Int) (w : World) (hx : xs.length = n) (hn : n ≤ 1000000) (hnc : n ≤ c) (hb : Bs w a xs) :
    Calls Try.prog 15 #[.slice a n c] w fun e w' => ∃ v, e = .returned (.tuple #[v, .int .i64 (passE xs)]) ∧ Sl w' v (passB xs) ∧ Below w.heap.size w w' := by
  have hI : IsB xs := hb.2
  have HX := Lib.hid hx
  have HB := Lib.hid hb
  by_cases hf : fault xs = 0
  case neg =>
    have HE : Hid (passE xs = fault xs) := Lib.hid (by unfold passE; rw [if_neg hf])
    have HP : Hid (passB xs = []) := Lib.hid (by unfold passB; rw [if_neg hf])
    have e6 : (fault xs != 0) = true := by rw [bne_iff_ne]; exact hf
    clear hx hb hf hI
    go_enter Try.func15, Try.ntmps15
    go_wp2_with (go_at_call 13; refine (rDecode a n c xs _ HX.out hn hnc HB.out).mono ?_; rintro e w1 ⟨v, rfl, -, hb1⟩; have HB1 := Lib.hid hb1; clear hb1)
    go_ret2
    rw [HE.out, HP.out]
    exact ⟨_, rfl, rl_nil _, HB1.out.alloc HB1.out.size _⟩
  have HL := Lib.hid (good_len hI hf)
  have HK := Lib.hid (decH_ok hI)
  have HDH : Hid (decH xs = hdr xs) := Lib.hid (by unfold decH; rw [if_pos hf])
  have HDB : Hid (decB xs = bod xs) := Lib.hid (by unfold decB; rw [if_pos hf])
  by_cases ht : (hdr xs).ttl ≤ 1
  · have HE : Hid (passE xs = 6) := Lib.hid (by unfold passE; rw [if_pos hf, if_pos ht])
    have HP : Hid (passB xs = []) := Lib.hid (by unfold passB; rw [if_pos hf, if_pos ht])
    have HF := Lib.hid hf
    have ht' : (decH xs).ttl ≤ 1 := by rw [HDH.out]; exact ht
    clear hx hb hf hI ht
    go_enter Try.func15, Try.ntmps15
    go_wp2_with (go_at_call 13; refine (rDecode a n c xs _ HX.out hn hnc HB.out).mono ?_; rintro e w1 ⟨v, rfl, -, hb1⟩; rw [HF.out]; have HB1 := Lib.hid hb1; clear hb1)
    go_ret2
    rw [HE.out, HP.out]
    exact ⟨_, rfl, rl_nil _, HB1.out.alloc HB1.out.size _⟩
  · have HE : Hid (passE xs = 0) := Lib.hid (by unfold passE; rw [if_pos hf, if_neg ht])
    have HP : Hid (passB xs = enc (less (hdr xs)) (bod xs)) := Lib.hid (by unfold passB; rw [if_pos hf, if_neg ht])
    have HF := Lib.hid hf
    have ht' : ¬ (decH xs).ttl ≤ 1 := by rw [HDH.out]; exact ht
    have HT := Lib.hid ht
    have b0 := HK.out.2.2.2.1
    have ENC : Hid (∀ (W : World) (a1 : Option Addr) (c1 : Nat), Bs W a1 (decB xs) → (a1 = none → (decB xs).length = 0 ∧ c1 = 0) → Calls Try.prog 11 #[.agg #[.int .u32 (decH xs).src, .int .u32 (decH xs).dst, .int .u8 (decH xs).proto, .int .u8 ((decH xs).ttl - 1), .int .u16 (decH xs).id, .bool (decH xs).alert], .slice a1 (decB xs).length c1] W fun e w' => ∃ v, e = .returned (.tuple #[v, .int .i64 0]) ∧ Fs w' W.heap.size v (enc (less (hdr xs)) (bod xs)) ∧ Below W.heap.size W w') := Lib.hid (fun W a1 c1 h1 h2 => by
      have := rEncode (less (decH xs)) a1 _ c1 (decB xs) W (less_ok HK.out ht') rfl h1 h2 (by rw [HDH.out, HDB.out]; exact HL.out.1)
      rw [HDH.out, HDB.out] at *
      exact this)
    clear hx hb hf hI ht
    go_enter Try.func15, Try.ntmps15
    go_wp2_with (first
      | (go_at_call 13; refine (rDecode a n c xs _ HX.out hn hnc HB.out).mono ?_; rintro e w1 ⟨v, rfl, ⟨a1, c1, rfl, hbs, hnl⟩, hb1⟩; rw [HF.out]; have HB1 := Lib.hid hb1; have HBS := Lib.hid hbs; have HNL := Lib.hid hnl; clear hb1 hbs hnl)
      | (go_at_call 11; refine (ENC.out _ a1 c1 (bs_below HBS.out ((Below.refl _ w1).alloc (Nat.le_refl _) _)) HNL.out).mono ?_; rintro e w2 ⟨v, rfl, hf2, hb2⟩))
    go_ret2
    rw [HE.out, HP.out]
    have hb1 := HB1.out.alloc HB1.out.size (.cells #[.int .u32 (decH xs).src, .int .u32 (decH xs).dst, .int .u8 (decH xs).proto, .int .u8 ((decH xs).ttl - 1), .int .u16 (decH xs).id, .bool (decH xs).alert] 26)
    exact ⟨_, rfl, hf2.sl, hb1.trans (hb2.mono hb1.size)⟩
end Go.Proofs.Ythmejokjbkkfbaa
