/- Passed, where a frame is passed on; the mathematics of what was told in bytes. -/
import Derived.Test.YthmejokjbkkfbaaFq
namespace Go.Proofs.Ythmejokjbkkfbaa
set_option linter.unusedVariables false
open Go.RowKit

set_option maxHeartbeats 1000000 in
theorem iPassed_ok (a : Option Addr) (n c : Nat) (xs : List Int) (w : World) (hx : xs.length = n) (hn : n ≤ 1000000) (hnc : n ≤ c) (hb : Bs w a xs) (hf : fault xs = 0) (ht : ¬ (hdr xs).ttl ≤ 1) :
    Calls Try.prog 14 #[.slice a n c] w fun e w' => ∃ v, e = .returned (.tuple #[v, .int .i64 0]) ∧ Fs w' w.heap.size v (enc (less (hdr xs)) (bod xs)) ∧ Below w.heap.size w w' := by
  have hI : IsB xs := hb.2
  have HX := Lib.hid hx
  have HB := Lib.hid hb
  have HL := Lib.hid (good_len hI hf)
  have HK := Lib.hid (decH_ok hI)
  have HDH : Hid (decH xs = hdr xs) := Lib.hid (by unfold decH; rw [if_pos hf])
  have HDB : Hid (decB xs = bod xs) := Lib.hid (by unfold decB; rw [if_pos hf])
  have HF := Lib.hid hf
  have ht' : ¬ (decH xs).ttl ≤ 1 := by rw [HDH.out]; exact ht
  have HT := Lib.hid ht
  have b0 := HK.out.2.2.2.1
  have ENC : Hid (∀ (W : World) (a1 : Option Addr) (c1 : Nat), Bs W a1 (decB xs) → (a1 = none → (decB xs).length = 0 ∧ c1 = 0) → Calls Try.prog 10 #[.agg #[.int .u32 (decH xs).src, .int .u32 (decH xs).dst, .int .u8 (decH xs).proto, .int .u8 ((decH xs).ttl - 1), .int .u16 (decH xs).id, .bool (decH xs).alert], .slice a1 (decB xs).length c1] W fun e w' => ∃ v, e = .returned (.tuple #[v, .int .i64 0]) ∧ Fs w' W.heap.size v (enc (less (hdr xs)) (bod xs)) ∧ Below W.heap.size W w') := Lib.hid (fun W a1 c1 h1 h2 => by
    have := iEncode (less (decH xs)) a1 _ c1 (decB xs) W (less_ok HK.out ht') rfl h1 h2 (by rw [HDH.out, HDB.out]; exact HL.out.1)
    rw [HDH.out, HDB.out] at *
    exact this)
  clear hx hb hf hI ht
  go_enter Try.func14, Try.ntmps14
  go_wp2_with (first
    | (go_at_call 12; refine (iDecode a n c xs _ HX.out hn hnc HB.out).mono ?_; rintro e w1 ⟨v, rfl, ⟨a1, c1, rfl, hbs, hnl⟩, hb1⟩; rw [HF.out]; have HB1 := Lib.hid hb1; have HBS := Lib.hid hbs; have HNL := Lib.hid hnl; clear hb1 hbs hnl)
    | (go_at_call 10; refine (ENC.out _ a1 c1 (bs_below HBS.out ((Below.refl _ w1).alloc (Nat.le_refl _) _)) HNL.out).mono ?_; rintro e w2 ⟨v, rfl, hf2, hb2⟩))
  go_ret2
  have hb1 := HB1.out.alloc HB1.out.size (.cells #[.int .u32 (decH xs).src, .int .u32 (decH xs).dst, .int .u8 (decH xs).proto, .int .u8 ((decH xs).ttl - 1), .int .u16 (decH xs).id, .bool (decH xs).alert] 26)
  exact ⟨_, rfl, hf2.up hb1.size, hb1.trans (hb2.mono hb1.size)⟩

theorem step {w w' : World} {o : Obj} (hb : Below (w.alloc o).heap.size (w.alloc o) w') : Below w.heap.size w w' := ((Below.refl _ w).alloc (Nat.le_refl _) o).trans (hb.mono (by simp))
theorem same_refl (xs : List Int) : SameB xs xs = true := decide_eq_true rfl
theorem enc_facts {h : Hdr} (hk : h.ok) (xs : List Int) (hl : hsz h.alert + xs.length ≤ 1500) : fault (enc h xs) = 0 ∧ hdr (enc h xs) = h ∧ bod (enc h xs) = xs := by
  have h1 := fault_enc hk xs [] hl
  have h2 := bod_hb hk xs [] hl
  rw [List.append_nil] at h1 h2
  exact ⟨h1.1, h1.2, h2⟩
theorem dec_enc {h : Hdr} (hk : h.ok) (xs : List Int) (hl : hsz h.alert + xs.length ≤ 1500) : fault (enc h xs) = 0 ∧ decH (enc h xs) = h ∧ decB (enc h xs) = xs := by
  obtain ⟨h1, h2, h3⟩ := enc_facts hk xs hl
  refine ⟨h1, ?_, ?_⟩
  · unfold decH; rw [if_pos h1]; exact h2
  · unfold decB; rw [if_pos h1]; exact h3
theorem dec_app {h : Hdr} (hk : h.ok) (xs more : List Int) (hl : hsz h.alert + xs.length ≤ 1500) : fault (enc h xs ++ more) = 0 ∧ decH (enc h xs ++ more) = h ∧ decB (enc h xs ++ more) = xs := by
  have h1 := fault_enc hk xs more hl
  refine ⟨h1.1, ?_, ?_⟩
  · unfold decH; rw [if_pos h1.1]; exact h1.2
  · unfold decB; rw [if_pos h1.1]; exact bod_hb hk xs more hl
theorem dec_err {xs : List Int} (h : fault xs ≠ 0) : decH xs = hz ∧ decB xs = [] := by
  refine ⟨?_, ?_⟩
  · unfold decH; rw [if_neg h]
  · unfold decB; rw [if_neg h]
theorem getD_take {xs : List Int} {k j : Nat} (h : j < k) : (xs.take k).getD j 0 = xs.getD j 0 := by
  rw [List.getD_eq_getElem?_getD, List.getElem?_take_of_lt h, ← List.getD_eq_getElem?_getD]
theorem first_enc (h : Hdr) (all : Int) (more : List Int) : (hbytes h all ++ more).getD 0 0 = fbt h.alert := by
  rw [hb_get20 more (by omega) (by omega) (by omega)]; rfl
/-- A frame that ends ahead of its end. -/
theorem cut_fault {h : Hdr} (hk : h.ok) (xs : List Int) (hl : hsz h.alert + xs.length ≤ 1500) {k : Nat} (hkl : k < hsz h.alert + xs.length) : fault ((enc h xs).take k) = 3 := by
  have hlen : ((enc h xs).take k).length = k := by rw [List.length_take, enc_len]; omega
  have hge := hsz_ge h.alert
  by_cases hH : k < hsz h.alert
  · by_cases h20 : k < 20
    · unfold fault; rw [if_pos (by omega)]
    · have h0 : ((enc h xs).take k).getD 0 0 = fbt h.alert := by rw [getD_take (by omega)]; exact first_enc h _ _
      have hal : h.alert = true := by
        cases e : h.alert with
        | true => rfl
        | false => rw [e] at hH; simp only [hsz] at hH; simp at hH; omega
      rw [hal] at h0 hH
      have ha : al0 ((enc h xs).take k) = true := by unfold al0; rw [h0]; rfl
      unfold fault
      rw [if_neg (by omega), if_neg (fun e => e (.inr h0)), ha, if_pos (by rw [hlen]; exact hH)]
  · have e : (enc h xs).take k = hbytes h ((hsz h.alert + xs.length : Nat) : Int) ++ xs.take (k - hsz h.alert) := by
      unfold enc
      rw [List.take_append, hbytes_len, List.take_of_length_le (by rw [hbytes_len]; omega)]
    rw [e, fault_hb hk (by omega) hl, if_pos (by rw [List.length_take]; omega)]
end Go.Proofs.Ythmejokjbkkfbaa
