/- Plain mathematics of headers: no program in it. -/
import Derived.Test.YthmejokjbkkfbaaSp
namespace Go.Proofs.Ythmejokjbkkfbaa
set_option linter.unusedVariables false

structure Hdr where
  src : Int
  dst : Int
  proto : Int
  ttl : Int
  id : Int
  alert : Bool
def Hdr.ok (h : Hdr) : Prop := (0 ≤ h.src ∧ h.src ≤ 4294967295) ∧ (0 ≤ h.dst ∧ h.dst ≤ 4294967295) ∧ (0 ≤ h.proto ∧ h.proto ≤ 255) ∧ (0 ≤ h.ttl ∧ h.ttl ≤ 255) ∧ (0 ≤ h.id ∧ h.id ≤ 65535)
def hz : Hdr := ⟨0, 0, 0, 0, 0, false⟩
def hsz (al : Bool) : Nat := if al then 24 else 20
def fbt (al : Bool) : Int := if al then 70 else 69
def l4 (a : Int) : List Int := [a / 16777216, a / 65536 % 256, a / 256 % 256, a % 256]
def alertL : List Int := [148, 4, 0, 0]
/-- A header's first 20 bytes, without the sum. -/
def base (h : Hdr) (all : Int) : List Int :=
  [fbt h.alert, 0, all / 256, all % 256, h.id / 256, h.id % 256, 0, 0, h.ttl, h.proto, 0, 0] ++ l4 h.src ++ l4 h.dst
def hraw (h : Hdr) (all : Int) : List Int := base h all ++ if h.alert then alertL else []
def hbytes (h : Hdr) (all : Int) : List Int := putS (hraw h all) 10
def enc (h : Hdr) (b : List Int) : List Int := hbytes h ((hsz h.alert + b.length : Nat) : Int) ++ b

def num (xs : List Int) (k : Nat) : Int := xs.getD k 0 * 256 + xs.getD (k + 1) 0
def ofv (xs : List Int) : Int := match xs with | [x0, x1, x2, x3] => ((x0 * 256 + x1) * 256 + x2) * 256 + x3 | _ => 0
def al0 (xs : List Int) : Bool := xs.getD 0 0 == 70
def all0 (xs : List Int) : Nat := (num xs 2).toNat
/-- Are those bytes of a header right that are the same in each, and may all have so many? -/
def formOk (xs : List Int) : Prop :=
  (xs.getD 1 0 = 0 ∧ xs.getD 6 0 = 0 ∧ xs.getD 7 0 = 0) ∧ (al0 xs = true → xs.getD 20 0 = 148 ∧ xs.getD 21 0 = 4 ∧ xs.getD 22 0 = 0 ∧ xs.getD 23 0 = 0) ∧ (hsz (al0 xs) ≤ all0 xs ∧ all0 xs ≤ 1500)
instance (xs : List Int) : Decidable (formOk xs) := by unfold formOk; infer_instance
def fault (xs : List Int) : Int :=
  if xs.length < 20 then 3
  else if ¬(xs.getD 0 0 = 69 ∨ xs.getD 0 0 = 70) then 2
  else if xs.length < hsz (al0 xs) then 3
  else if ¬ ofs (xs.take (hsz (al0 xs))) = 0 then 4
  else if ¬ formOk xs then 2
  else if xs.length < all0 xs then 3
  else if ¬ putS (xs.take (hsz (al0 xs))) 10 = xs.take (hsz (al0 xs)) then 4
  else 0
def hdr (xs : List Int) : Hdr := ⟨ofv ((xs.drop 12).take 4), ofv ((xs.drop 16).take 4), xs.getD 9 0, xs.getD 8 0, num xs 4, al0 xs⟩
def bod (xs : List Int) : List Int := (xs.drop (hsz (al0 xs))).take (all0 xs - hsz (al0 xs))

theorem fbt_hsz (al : Bool) : (fbt al - 64) * 4 = hsz al := by cases al <;> rfl
theorem l4_len (a : Int) : (l4 a).length = 4 := rfl
theorem isB_l4 {a : Int} (h : 0 ≤ a ∧ a ≤ 4294967295) : IsB (l4 a) := by
  obtain ⟨h0, h1⟩ := h
  unfold l4
  exact isB_cons.2 ⟨by omega, isB_cons.2 ⟨by omega, isB_cons.2 ⟨by omega, isB_cons.2 ⟨by omega, isB_nil⟩⟩⟩⟩
theorem isB_alert : IsB alertL := isB_cons.2 ⟨by omega, isB_cons.2 ⟨by omega, isB_cons.2 ⟨by omega, isB_cons.2 ⟨by omega, isB_nil⟩⟩⟩⟩
theorem isB_base {h : Hdr} (hk : h.ok) {all : Int} (h0 : 0 ≤ all) (h1 : all ≤ 65535) : IsB (base h all) := by
  obtain ⟨hs, hd, hp, ht, hi⟩ := hk
  unfold base
  refine isB_append (isB_append ?_ (isB_l4 hs)) (isB_l4 hd)
  have hf : 0 ≤ fbt h.alert ∧ fbt h.alert ≤ 255 := by unfold fbt; split <;> omega
  refine isB_cons.2 ⟨hf, isB_cons.2 ⟨by omega, isB_cons.2 ⟨by omega, isB_cons.2 ⟨by omega, isB_cons.2 ⟨by omega, isB_cons.2 ⟨by omega, isB_cons.2 ⟨by omega, isB_cons.2 ⟨by omega, isB_cons.2 ⟨ht, isB_cons.2 ⟨hp, isB_cons.2 ⟨by omega, isB_cons.2 ⟨by omega, isB_nil⟩⟩⟩⟩⟩⟩⟩⟩⟩⟩⟩⟩
theorem base_len (h : Hdr) (all : Int) : (base h all).length = 20 := rfl
theorem hraw_len (h : Hdr) (all : Int) : (hraw h all).length = hsz h.alert := by
  unfold hraw hsz; rw [List.length_append, base_len]; cases h.alert <;> rfl
theorem isB_hraw {h : Hdr} (hk : h.ok) {all : Int} (h0 : 0 ≤ all) (h1 : all ≤ 65535) : IsB (hraw h all) := by
  unfold hraw
  refine isB_append (isB_base hk h0 h1) ?_
  cases h.alert
  · exact isB_nil
  · exact isB_alert
theorem hbytes_len (h : Hdr) (all : Int) : (hbytes h all).length = hsz h.alert := by unfold hbytes; rw [putS_len, hraw_len]
theorem isB_hbytes {h : Hdr} (hk : h.ok) {all : Int} (h0 : 0 ≤ all) (h1 : all ≤ 65535) : IsB (hbytes h all) := isB_putS (isB_hraw hk h0 h1) 10
theorem hsz_ge (al : Bool) : 20 ≤ hsz al ∧ hsz al ≤ 24 := by cases al <;> decide
theorem enc_len (h : Hdr) (b : List Int) : (enc h b).length = hsz h.alert + b.length := by unfold enc; rw [List.length_append, hbytes_len]
theorem isB_enc {h : Hdr} (hk : h.ok) {b : List Int} (hb : IsB b) (hl : hsz h.alert + b.length ≤ 1500) : IsB (enc h b) :=
  isB_append (isB_hbytes hk (by omega) (by omega)) hb
theorem putS_get {xs : List Int} {j : Nat} (h0 : j ≠ 10) (h1 : j ≠ 11) : (putS xs 10).getD j 0 = xs.getD j 0 := putS_getD_ne h0 h1
theorem getD_app {xs ys : List Int} {j : Nat} (h : j < xs.length) : (xs ++ ys).getD j 0 = xs.getD j 0 := by
  rw [List.getD_eq_getElem?_getD, List.getElem?_append_left h, ← List.getD_eq_getElem?_getD]
/-- What stands behind a header's bytes changes none of them. -/
theorem hb_get {h : Hdr} {all : Int} (more : List Int) {j : Nat} (hj : j < hsz h.alert) (h0 : j ≠ 10) (h1 : j ≠ 11) : (hbytes h all ++ more).getD j 0 = (hraw h all).getD j 0 := by
  rw [getD_app (by rw [hbytes_len]; exact hj)]
  exact putS_get h0 h1
theorem hb_get20 {h : Hdr} {all : Int} (more : List Int) {j : Nat} (hj : j < 20) (h0 : j ≠ 10) (h1 : j ≠ 11) : (hbytes h all ++ more).getD j 0 = (base h all).getD j 0 := by
  have := (hsz_ge h.alert).1
  rw [hb_get more (by omega) h0 h1]
  unfold hraw
  rw [getD_app (by rw [base_len]; exact hj)]
theorem ofv_l4 {a : Int} (h : 0 ≤ a ∧ a ≤ 4294967295) : ofv (l4 a) = a := by
  obtain ⟨h0, h1⟩ := h
  show (((a / 16777216) * 256 + a / 65536 % 256) * 256 + a / 256 % 256) * 256 + a % 256 = a
  omega
theorem list4 {xs : List Int} {k : Nat} (h : k + 4 ≤ xs.length) : (xs.drop k).take 4 = [xs.getD k 0, xs.getD (k + 1) 0, xs.getD (k + 2) 0, xs.getD (k + 3) 0] := by
  apply List.ext_getElem?
  intro i
  by_cases hi : i < 4
  · rw [List.getElem?_take_of_lt hi, List.getElem?_drop]
    have : ∀ j, j < xs.length → xs[j]? = some (xs.getD j 0) := by
      intro j hj
      rw [List.getD_eq_getElem?_getD, List.getElem?_eq_getElem hj]; rfl
    rw [this (k + i) (by omega)]
    match i, hi with
    | 0, _ => rfl
    | 1, _ => rfl
    | 2, _ => rfl
    | 3, _ => rfl
  · rw [List.getElem?_eq_none (by simp; omega), List.getElem?_eq_none (by simp; omega)]
/-- What is told in bytes is the same. -/
theorem hdr_of {h : Hdr} (hk : h.ok) {all : Int} (h0 : 0 ≤ all) (h1 : all ≤ 65535) (more : List Int) : hdr (hbytes h all ++ more) = h ∧ num (hbytes h all ++ more) 2 = all ∧ al0 (hbytes h all ++ more) = h.alert := by
  have hal : al0 (hbytes h all ++ more) = h.alert := by
    unfold al0
    rw [hb_get20 more (by omega) (by omega) (by omega)]
    cases h' : h.alert <;> simp [base, fbt, h']
  have hlen : 20 ≤ (hbytes h all ++ more).length := by rw [List.length_append, hbytes_len]; have := (hsz_ge h.alert).1; omega
  obtain ⟨hs, hd, hp, ht, hi⟩ := hk
  refine ⟨?_, ?_, hal⟩
  · unfold hdr
    rw [hal, list4 (by omega), list4 (by omega)]
    unfold num
    rw [hb_get20 more (j := 12) (by omega) (by omega) (by omega), hb_get20 more (j := 12 + 1) (by omega) (by omega) (by omega), hb_get20 more (j := 12 + 2) (by omega) (by omega) (by omega), hb_get20 more (j := 12 + 3) (by omega) (by omega) (by omega),
      hb_get20 more (j := 16) (by omega) (by omega) (by omega), hb_get20 more (j := 16 + 1) (by omega) (by omega) (by omega), hb_get20 more (j := 16 + 2) (by omega) (by omega) (by omega), hb_get20 more (j := 16 + 3) (by omega) (by omega) (by omega),
      hb_get20 more (j := 9) (by omega) (by omega) (by omega), hb_get20 more (j := 8) (by omega) (by omega) (by omega), hb_get20 more (j := 4) (by omega) (by omega) (by omega), hb_get20 more (j := 4 + 1) (by omega) (by omega) (by omega)]
    have e1 := ofv_l4 hs
    have e2 := ofv_l4 hd
    unfold l4 at e1 e2
    obtain ⟨s, d, p, t, i, al⟩ := h
    simp only [base, l4, List.cons_append, List.nil_append, List.getD_cons_zero, List.getD_cons_succ, Hdr.mk.injEq]
    exact ⟨e1, e2, trivial, trivial, by simp only at hi; omega, trivial⟩
  · unfold num
    rw [hb_get20 more (j := 2) (by omega) (by omega) (by omega), hb_get20 more (j := 2 + 1) (by omega) (by omega) (by omega)]
    simp only [base, List.cons_append, List.getD_cons_zero, List.getD_cons_succ]
    omega
theorem take_hb (h : Hdr) (all : Int) (more : List Int) : (hbytes h all ++ more).take (hsz h.alert) = hbytes h all := by
  rw [List.take_append_of_le_length (by rw [hbytes_len]; omega), List.take_of_length_le (by rw [hbytes_len]; omega)]
theorem putS_putS (xs : List Int) : putS (putS xs 10) 10 = putS xs 10 := by
  have e : put0 (putS xs 10) 10 = put0 xs 10 := by
    unfold putS put0
    rw [putw_putw, putw_putw]
  show putw (put0 (putS xs 10) 10) 10 (ofs (put0 (putS xs 10) 10)) = putw (put0 xs 10) 10 (ofs (put0 xs 10))
  rw [e]
theorem ofs_hbytes {h : Hdr} (hk : h.ok) {all : Int} (h0 : 0 ≤ all) (h1 : all ≤ 65535) : ofs (hbytes h all) = 0 :=
  ofs_putS (isB_hraw hk h0 h1) (by decide) (by rw [hraw_len]; have := (hsz_ge h.alert).1; omega)
/-- A header's bytes, with whatever is behind, as far as it is there. -/
theorem fault_hb {h : Hdr} (hk : h.ok) {all : Nat} (h0 : hsz h.alert ≤ all) (h1 : all ≤ 1500) (more : List Int) : fault (hbytes h all ++ more) = if hsz h.alert + more.length < all then 3 else 0 := by
  obtain ⟨e1, e2, e3⟩ := hdr_of hk (all := (all : Int)) (by omega) (by omega) more
  have hge := hsz_ge h.alert
  have hl : (hbytes h (all : Int) ++ more).length = hsz h.alert + more.length := by rw [List.length_append, hbytes_len]
  have ha : all0 (hbytes h (all : Int) ++ more) = all := by unfold all0; rw [e2]; omega
  have hf : formOk (hbytes h (all : Int) ++ more) := by
    unfold formOk
    rw [e3, ha]
    refine ⟨⟨?_, ?_, ?_⟩, fun hal => ?_, h0, h1⟩
    · rw [hb_get20 more (by omega) (by omega) (by omega)]; rfl
    · rw [hb_get20 more (by omega) (by omega) (by omega)]; rfl
    · rw [hb_get20 more (by omega) (by omega) (by omega)]; rfl
    · have h24 : hsz h.alert = 24 := by rw [hal]; rfl
      rw [hb_get more (by omega) (by omega) (by omega), hb_get more (by omega) (by omega) (by omega), hb_get more (by omega) (by omega) (by omega), hb_get more (by omega) (by omega) (by omega)]
      unfold hraw
      rw [hal]
      simp [base, l4, alertL]
  have hb0 : (hbytes h (all : Int) ++ more).getD 0 0 = fbt h.alert := by rw [hb_get20 more (by omega) (by omega) (by omega)]; rfl
  unfold fault
  rw [hl, hb0, e3, take_hb, ofs_hbytes hk (by omega) (by omega), ha]
  rw [if_neg (by omega), if_neg (by unfold fbt; cases h.alert <;> simp), if_neg (by omega), if_neg (by simp), if_neg (by simp [hf])]
  by_cases hm : hsz h.alert + more.length < all
  · rw [if_pos hm, if_pos hm]
  · rw [if_neg hm, if_neg hm, if_neg]
    rw [show putS (hbytes h (all : Int)) 10 = hbytes h all from putS_putS _]
    simp
theorem bod_hb {h : Hdr} (hk : h.ok) (b more : List Int) (hl : hsz h.alert + b.length ≤ 1500) : bod (enc h b ++ more) = b := by
  unfold enc
  rw [List.append_assoc]
  obtain ⟨e1, e2, e3⟩ := hdr_of hk (all := ((hsz h.alert + b.length : Nat) : Int)) (by omega) (by omega) (b ++ more)
  unfold bod all0
  rw [e3, e2, List.drop_append_of_le_length (by rw [hbytes_len]; omega), List.drop_eq_nil_of_le (by rw [hbytes_len]; omega)]
  rw [show ((hsz h.alert + b.length : Nat) : Int).toNat - hsz h.alert = b.length by omega]
  simp
theorem fault_enc {h : Hdr} (hk : h.ok) (b more : List Int) (hl : hsz h.alert + b.length ≤ 1500) : fault (enc h b ++ more) = 0 ∧ hdr (enc h b ++ more) = h := by
  unfold enc
  rw [List.append_assoc]
  refine ⟨?_, (hdr_of hk (by omega) (by omega) _).1⟩
  rw [fault_hb hk (by omega) hl, if_neg (by rw [List.length_append]; omega)]

/-- What is read of bytes. -/
structure Good (xs : List Int) : Prop where
  len20 : 20 ≤ xs.length
  first : xs.getD 0 0 = 69 ∨ xs.getD 0 0 = 70
  lenH : hsz (al0 xs) ≤ xs.length
  whole : ofs (xs.take (hsz (al0 xs))) = 0
  form : formOk xs
  lenA : all0 xs ≤ xs.length
  summed : putS (xs.take (hsz (al0 xs))) 10 = xs.take (hsz (al0 xs))
theorem good_of {xs : List Int} (h : fault xs = 0) : Good xs := by
  unfold fault at h
  by_cases h1 : xs.length < 20
  · rw [if_pos h1] at h; cases h
  rw [if_neg h1] at h
  by_cases h2 : xs.getD 0 0 = 69 ∨ xs.getD 0 0 = 70
  case neg => rw [if_pos h2] at h; cases h
  rw [if_neg (fun e => e h2)] at h
  by_cases h3 : xs.length < hsz (al0 xs)
  · rw [if_pos h3] at h; cases h
  rw [if_neg h3] at h
  by_cases h4 : ofs (xs.take (hsz (al0 xs))) = 0
  case neg => rw [if_pos h4] at h; cases h
  rw [if_neg (fun e => e h4)] at h
  by_cases h5 : formOk xs
  case neg => rw [if_pos h5] at h; cases h
  rw [if_neg (fun e => e h5)] at h
  by_cases h6 : xs.length < all0 xs
  · rw [if_pos h6] at h; cases h
  rw [if_neg h6] at h
  by_cases h7 : putS (xs.take (hsz (al0 xs))) 10 = xs.take (hsz (al0 xs))
  case neg => rw [if_pos h7] at h; cases h
  exact ⟨by omega, h2, by omega, h4, h5, by omega, h7⟩
theorem num_bd {xs : List Int} (h : IsB xs) (k : Nat) : 0 ≤ num xs k ∧ num xs k ≤ 65535 := by
  have h1 := getD_bd h k
  have h2 := getD_bd h (k + 1)
  unfold num; omega
theorem ofv_bd {xs : List Int} (h : IsB xs) {k : Nat} (hk : k + 4 ≤ xs.length) : 0 ≤ ofv ((xs.drop k).take 4) ∧ ofv ((xs.drop k).take 4) ≤ 4294967295 ∧ l4 (ofv ((xs.drop k).take 4)) = [xs.getD k 0, xs.getD (k + 1) 0, xs.getD (k + 2) 0, xs.getD (k + 3) 0] := by
  rw [list4 hk]
  have h0 := getD_bd h k
  have h1 := getD_bd h (k + 1)
  have h2 := getD_bd h (k + 2)
  have h3 := getD_bd h (k + 3)
  generalize xs.getD k 0 = a at *
  generalize xs.getD (k + 1) 0 = b at *
  generalize xs.getD (k + 2) 0 = c at *
  generalize xs.getD (k + 3) 0 = d at *
  show 0 ≤ ((a * 256 + b) * 256 + c) * 256 + d ∧ ((a * 256 + b) * 256 + c) * 256 + d ≤ 4294967295 ∧ l4 (((a * 256 + b) * 256 + c) * 256 + d) = [a, b, c, d]
  unfold l4
  refine ⟨by omega, by omega, ?_⟩
  simp only [List.cons.injEq, and_true]
  refine ⟨by omega, by omega, by omega, by omega⟩
theorem hdr_ok {xs : List Int} (h : IsB xs) (hl : 20 ≤ xs.length) : (hdr xs).ok := by
  have h1 := ofv_bd h (k := 12) (by omega)
  have h2 := ofv_bd h (k := 16) (by omega)
  exact ⟨⟨h1.1, h1.2.1⟩, ⟨h2.1, h2.2.1⟩, getD_bd h 9, getD_bd h 8, num_bd h 4⟩
theorem putS_congr {xs ys : List Int} (hl : xs.length = ys.length) (h : ∀ j, j ≠ 10 → j ≠ 11 → xs.getD j 0 = ys.getD j 0) : putS xs 10 = putS ys 10 := by
  have e : put0 xs 10 = put0 ys 10 := by
    apply List.ext_getElem
    · rw [put0_len, put0_len, hl]
    intro i h1 h2
    have g : (put0 xs 10).getD i 0 = (put0 ys 10).getD i 0 := by
      rw [put0_len] at h1 h2
      unfold put0
      by_cases h10 : i = 10
      · subst h10; rw [putw_getD_0 _ h1, putw_getD_0 _ h2]
      · by_cases h11 : i = 11
        · subst h11; rw [putw_getD_1 _ h1, putw_getD_1 _ h2]
        · rw [putw_getD_ne _ h10 h11, putw_getD_ne _ h10 h11]; exact h i h10 h11
    simpa [List.getD_eq_getElem?_getD, h1, h2] using g
  unfold putS
  rw [e]
theorem hbytes_hdr {xs : List Int} (h : IsB xs) (h20 : 20 ≤ xs.length) (hf : xs.getD 0 0 = 69 ∨ xs.getD 0 0 = 70) (hH : hsz (al0 xs) ≤ xs.length) (hform : formOk xs) : hbytes (hdr xs) (all0 xs) = putS (xs.take (hsz (al0 xs))) 10 := by
  unfold hbytes
  have hge := hsz_ge (al0 xs)
  refine putS_congr (by rw [hraw_len, List.length_take]; show hsz (al0 xs) = _; omega) fun j h10 h11 => ?_
  by_cases hj : j < hsz (al0 xs)
  · have et : (xs.take (hsz (al0 xs))).getD j 0 = xs.getD j 0 := by rw [List.getD_eq_getElem?_getD, List.getElem?_take_of_lt hj, ← List.getD_eq_getElem?_getD]
    rw [et]
    obtain ⟨⟨f1, f6, f7⟩, fa, _⟩ := hform
    have ha : (all0 xs : Int) = num xs 2 := by unfold all0; have := num_bd h 2; omega
    have hs := (ofv_bd h (k := 12) (by omega)).2.2
    have hd := (ofv_bd h (k := 16) (by omega)).2.2
    have n2 : num xs 2 / 256 = xs.getD 2 0 ∧ num xs 2 % 256 = xs.getD 3 0 := by
      have h1 := getD_bd h 2; have h2 := getD_bd h 3
      show (xs.getD 2 0 * 256 + xs.getD 3 0) / 256 = _ ∧ (xs.getD 2 0 * 256 + xs.getD 3 0) % 256 = _
      omega
    have n4 : num xs 4 / 256 = xs.getD 4 0 ∧ num xs 4 % 256 = xs.getD 5 0 := by
      have h1 := getD_bd h 4; have h2 := getD_bd h 5
      show (xs.getD 4 0 * 256 + xs.getD 5 0) / 256 = _ ∧ (xs.getD 4 0 * 256 + xs.getD 5 0) % 256 = _
      omega
    have hfb : fbt (al0 xs) = xs.getD 0 0 := by
      rcases hf with e | e <;> simp only [al0, e, fbt] <;> rfl
    unfold hraw
    by_cases hj20 : j < 20
    · rw [getD_app (by rw [base_len]; exact hj20)]
      unfold base
      show (([fbt (al0 xs), 0, (all0 xs : Int) / 256, (all0 xs : Int) % 256, num xs 4 / 256, num xs 4 % 256, 0, 0, xs.getD 8 0, xs.getD 9 0, 0, 0] ++ l4 (ofv ((xs.drop 12).take 4)) ++ l4 (ofv ((xs.drop 16).take 4))) : List Int).getD j 0 = _
      rw [hs, hd, ha, n2.1, n2.2, n4.1, n4.2, hfb]
      simp only [List.cons_append, List.nil_append]
      have hc : j = 0 ∨ j = 1 ∨ j = 2 ∨ j = 3 ∨ j = 4 ∨ j = 5 ∨ j = 6 ∨ j = 7 ∨ j = 8 ∨ j = 9 ∨ j = 10 ∨ j = 11 ∨ j = 12 ∨ j = 13 ∨ j = 14 ∨ j = 15 ∨ j = 16 ∨ j = 17 ∨ j = 18 ∨ j = 19 := by omega
      rcases hc with rfl | rfl | rfl | rfl | rfl | rfl | rfl | rfl | rfl | rfl | rfl | rfl | rfl | rfl | rfl | rfl | rfl | rfl | rfl | rfl
      · rfl
      · exact f1.symm
      · rfl
      · rfl
      · rfl
      · rfl
      · exact f6.symm
      · exact f7.symm
      · rfl
      · rfl
      · exact absurd rfl h10
      · exact absurd rfl h11
      · rfl
      · rfl
      · rfl
      · rfl
      · rfl
      · rfl
      · rfl
      · rfl
    · have hal : al0 xs = true := by
        cases e : al0 xs with
        | true => rfl
        | false => rw [e] at hj; simp [hsz] at hj; omega
      have hj24 : j < 24 := by rw [hal] at hj; simpa [hsz] using hj
      obtain ⟨a0, a1, a2, a3⟩ := fa hal
      have e2 : (base (hdr xs) (all0 xs : Int) ++ (if (hdr xs).alert = true then alertL else [])).getD j 0 = alertL.getD (j - 20) 0 := by
        rw [List.getD_eq_getElem?_getD, List.getElem?_append_right (by rw [base_len]; omega), base_len, if_pos (show (hdr xs).alert = true from hal), ← List.getD_eq_getElem?_getD]
      rw [e2]
      have hc : j = 20 ∨ j = 21 ∨ j = 22 ∨ j = 23 := by omega
      rcases hc with rfl | rfl | rfl | rfl
      · exact a0.symm
      · exact a1.symm
      · exact a2.symm
      · exact a3.symm
  · rw [List.getD_eq_getElem?_getD, List.getD_eq_getElem?_getD, List.getElem?_eq_none (by rw [hraw_len]; exact Nat.le_of_not_lt hj), List.getElem?_eq_none (by rw [List.length_take]; omega)]
theorem bod_len {xs : List Int} (hA : all0 xs ≤ xs.length) : (bod xs).length = all0 xs - hsz (al0 xs) := by
  unfold bod; rw [List.length_take, List.length_drop]; omega
theorem take_split {xs : List Int} (hform : formOk xs) : xs.take (all0 xs) = xs.take (hsz (al0 xs)) ++ bod xs := by
  unfold bod
  have := hform.2.2.1
  rw [show all0 xs = hsz (al0 xs) + (all0 xs - hsz (al0 xs)) by omega, List.take_add]
  rw [show hsz (al0 xs) + (all0 xs - hsz (al0 xs)) - hsz (al0 xs) = all0 xs - hsz (al0 xs) by omega]
/-- A frame's header, with what is in it, is its bytes, but for the sum. -/
theorem enc_hdr {xs : List Int} (h : IsB xs) (h20 : 20 ≤ xs.length) (hf : xs.getD 0 0 = 69 ∨ xs.getD 0 0 = 70) (hH : hsz (al0 xs) ≤ xs.length) (hform : formOk xs) (hA : all0 xs ≤ xs.length) :
    enc (hdr xs) (bod xs) = putS (xs.take (hsz (al0 xs))) 10 ++ bod xs ∧ hsz (hdr xs).alert + (bod xs).length = all0 xs := by
  have h0 := hform.2.2.1
  have e : hsz (hdr xs).alert + (bod xs).length = all0 xs := by
    rw [bod_len hA]; show hsz (al0 xs) + _ = _; omega
  refine ⟨?_, e⟩
  unfold enc
  rw [e, hbytes_hdr h h20 hf hH hform]
theorem enc_same {xs : List Int} (h : IsB xs) (h20 : 20 ≤ xs.length) (hf : xs.getD 0 0 = 69 ∨ xs.getD 0 0 = 70) (hH : hsz (al0 xs) ≤ xs.length) (hform : formOk xs) (hA : all0 xs ≤ xs.length) :
    (enc (hdr xs) (bod xs) = xs.take (all0 xs)) ↔ putS (xs.take (hsz (al0 xs))) 10 = xs.take (hsz (al0 xs)) := by
  rw [(enc_hdr h h20 hf hH hform hA).1, take_split hform]
  exact ⟨fun e => List.append_cancel_right e, fun e => by rw [e]⟩
theorem isB_drop {xs : List Int} (h : IsB xs) (n : Nat) : IsB (xs.drop n) := by
  intro k hk
  rw [List.getD_eq_getElem?_getD, List.getElem?_drop, ← List.getD_eq_getElem?_getD]
  exact getD_bd h _
theorem isB_bod {xs : List Int} (h : IsB xs) : IsB (bod xs) := isB_take (isB_drop h _) _
end Go.Proofs.Ythmejokjbkkfbaa
