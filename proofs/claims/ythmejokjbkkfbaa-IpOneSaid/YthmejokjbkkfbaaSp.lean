/- Plain mathematics of sums of bytes (RFC 1071): no program in it. -/
import Derived.Lib.Bytealg
namespace Go.Proofs.Ythmejokjbkkfbaa
set_option linter.unusedVariables false

/-- Two words joined. -/
def jn (x y : Int) : Int := if 65536 ≤ x + y then x + y - 65535 else x + y
/-- What the joined words of a total come to. -/
def nrm (t : Int) : Int := if t = 0 then 0 else (t - 1) % 65535 + 1
/-- The total of the words of bytes. -/
def tot : List Int → Int
  | [] => 0
  | [a] => a * 256
  | a :: b :: r => a * 256 + b + tot r
/-- The sum of bytes. -/
def ofs (xs : List Int) : Int := 65535 - nrm (tot xs)
def IsB (xs : List Int) : Prop := ∀ k, k < xs.length → 0 ≤ xs.getD k 0 ∧ xs.getD k 0 ≤ 255
/-- The j-th word. -/
def wrd (xs : List Int) (j : Nat) : Int := xs.getD (2 * j) 0 * 256 + xs.getD (2 * j + 1) 0
def wt (k : Nat) : Int := if k % 2 = 0 then 256 else 1

theorem getD_bd {xs : List Int} (h : IsB xs) (k : Nat) : 0 ≤ xs.getD k 0 ∧ xs.getD k 0 ≤ 255 := by
  by_cases hk : k < xs.length
  · exact h k hk
  · rw [List.getD_eq_getElem?_getD, List.getElem?_eq_none (by omega)]
    simp
theorem wrd_bd {xs : List Int} (h : IsB xs) (j : Nat) : 0 ≤ wrd xs j ∧ wrd xs j ≤ 65535 := by
  have h1 := getD_bd h (2 * j)
  have h2 := getD_bd h (2 * j + 1)
  unfold wrd
  omega
theorem jn_bd {x y : Int} (h1 : 0 ≤ x ∧ x ≤ 65535) (h2 : 0 ≤ y ∧ y ≤ 65535) : 0 ≤ jn x y ∧ jn x y ≤ 65535 := by
  unfold jn; split <;> omega
theorem nrm_bd {t : Int} (h : 0 ≤ t) : 0 ≤ nrm t ∧ nrm t ≤ 65535 := by
  unfold nrm; split <;> omega
theorem nrm_id {t : Int} (h : 0 ≤ t) (h' : t ≤ 65535) : nrm t = t := by
  unfold nrm; split <;> omega
theorem nrm_mk (q : Int) {r : Int} (hq : 0 ≤ q) (h0 : 1 ≤ r) (h1 : r ≤ 65535) : nrm (65535 * q + r) = r := by
  unfold nrm
  rw [if_neg (by omega), show 65535 * q + r - 1 = r - 1 + 65535 * q by omega, Int.add_mul_emod_self_left, Int.emod_eq_of_lt (by omega) (by omega)]
  omega
theorem nrm_of {t : Int} (h : 0 < t) : ∃ q r, t = 65535 * q + r ∧ 0 ≤ q ∧ 1 ≤ r ∧ r ≤ 65535 :=
  ⟨(t - 1) / 65535, (t - 1) % 65535 + 1, by omega, by omega, by omega, by omega⟩
theorem nrm_jn {t y : Int} (h : 0 ≤ t) (h0 : 0 ≤ y) (h1 : y ≤ 65535) : jn (nrm t) y = nrm (t + y) := by
  by_cases ht : t = 0
  · subst ht
    rw [show (0 : Int) + y = y by omega, nrm_id h0 h1]
    simp only [nrm, if_pos, jn]
    rw [if_neg (by omega)]; omega
  · obtain ⟨q, r, rfl, hq, hr0, hr1⟩ := nrm_of (t := t) (by omega)
    rw [nrm_mk q hq hr0 hr1]
    unfold jn
    by_cases hc : 65536 ≤ r + y
    · rw [if_pos hc, show 65535 * q + r + y = 65535 * (q + 1) + (r + y - 65535) by omega, nrm_mk (q + 1) (by omega) (by omega) (by omega)]
    · rw [if_neg hc, show 65535 * q + r + y = 65535 * q + (r + y) by omega, nrm_mk q hq (by omega) (by omega)]
theorem jn_nrm {s t : Int} (hs : 0 ≤ s) (ht : 0 ≤ t) : jn (nrm s) (nrm t) = nrm (s + t) := by
  rw [nrm_jn hs (nrm_bd ht).1 (nrm_bd ht).2]
  by_cases h : t = 0
  · subst h; simp [nrm]
  · obtain ⟨q, r, rfl, hq, hr0, hr1⟩ := nrm_of (t := t) (by omega)
    rw [nrm_mk q hq hr0 hr1]
    obtain ⟨q', r', e, hq', hr0', hr1'⟩ := nrm_of (t := s + r) (by omega)
    rw [e, nrm_mk q' hq' hr0' hr1', show s + (65535 * q + r) = 65535 * (q + q') + r' by omega, nrm_mk (q + q') (by omega) hr0' hr1']
theorem isB_nil : IsB [] := fun k hk => absurd hk (by simp)
theorem isB_cons {a : Int} {r : List Int} : IsB (a :: r) ↔ (0 ≤ a ∧ a ≤ 255) ∧ IsB r := by
  constructor
  · intro h
    exact ⟨by simpa using h 0 (by simp), fun k hk => by simpa using h (k + 1) (by simpa using hk)⟩
  · rintro ⟨h0, h⟩ k hk
    cases k with
    | zero => simpa using h0
    | succ k => simpa using h k (by simpa using hk)
theorem tot_pos : ∀ {xs : List Int}, IsB xs → 0 ≤ tot xs
  | [], _ => by simp [tot]
  | [a], h => by have := (isB_cons.1 h).1; unfold tot; omega
  | a :: b :: r, h => by
    have h1 := isB_cons.1 h
    have h2 := isB_cons.1 h1.2
    have := tot_pos h2.2
    unfold tot; omega
theorem ofs_bd {xs : List Int} (h : IsB xs) : 0 ≤ ofs xs ∧ ofs xs ≤ 65535 := by
  have := nrm_bd (tot_pos h)
  unfold ofs; omega
/-- One word more. -/
theorem tot_step : ∀ (xs : List Int) (j : Nat), tot (xs.take (2 * (j + 1))) = tot (xs.take (2 * j)) + wrd xs j
  | [], j => by simp [tot, wrd]
  | [a], 0 => by simp [tot, wrd]
  | [a], j + 1 => by
    rw [show 2 * (j + 1 + 1) = 2 * (j + 1) + 1 + 1 by omega, show 2 * (j + 1) = 2 * j + 1 + 1 by omega]
    simp [tot, wrd]
  | a :: b :: r, 0 => by simp [tot, wrd]
  | a :: b :: r, j + 1 => by
    have h := tot_step r j
    rw [show 2 * (j + 1 + 1) = 2 * (j + 1) + 1 + 1 by omega, List.take_succ_cons, List.take_succ_cons, show 2 * (j + 1) = 2 * j + 1 + 1 by omega, List.take_succ_cons, List.take_succ_cons]
    rw [show 2 * (j + 1) = 2 * j + 1 + 1 by omega] at h
    have e : wrd (a :: b :: r) (j + 1) = wrd r j := by
      unfold wrd
      rw [show 2 * (j + 1) = 2 * j + 1 + 1 by omega, List.getD_cons_succ, List.getD_cons_succ, List.getD_cons_succ, List.getD_cons_succ]
    rw [e]
    unfold tot
    rw [h]; omega
theorem tot_zero (xs : List Int) : tot (xs.take (2 * 0)) = 0 := by simp [tot]
theorem tot_full (xs : List Int) {j : Nat} (h : xs.length ≤ 2 * j) : tot (xs.take (2 * j)) = tot xs := by
  rw [List.take_of_length_le h]
theorem isB_take {xs : List Int} (h : IsB xs) (n : Nat) : IsB (xs.take n) := by
  intro k hk
  have hk' : k < n := by rw [List.length_take] at hk; omega
  rw [List.getD_eq_getElem?_getD, List.getElem?_take_of_lt hk', ← List.getD_eq_getElem?_getD]
  exact getD_bd h k
/-- The loop's sum, one word on. -/
theorem nrm_step {xs : List Int} (h : IsB xs) (j : Nat) : jn (nrm (tot (xs.take (2 * j)))) (wrd xs j) = nrm (tot (xs.take (2 * (j + 1)))) := by
  rw [tot_step, nrm_jn (tot_pos (isB_take h _)) (wrd_bd h j).1 (wrd_bd h j).2]
/-- One byte changed. -/
theorem tot_set : ∀ (xs : List Int) (k : Nat) (v : Int), k < xs.length → tot (xs.set k v) = tot xs + (v - xs.getD k 0) * wt k
  | [], k, v, h => by simp at h
  | [a], 0, v, _ => by simp [tot, wt]; omega
  | [a], k + 1, v, h => by simp at h
  | a :: b :: r, 0, v, _ => by simp [tot, wt]; omega
  | a :: b :: r, 1, v, _ => by simp [tot, wt]; omega
  | a :: b :: r, k + 2, v, h => by
    have hi := tot_set r k v (by simpa using h)
    have hw : wt (k + 2) = wt k := by unfold wt; rw [show (k + 2) % 2 = k % 2 by omega]
    simp only [List.set_cons_succ, tot, hw, List.getD_cons_succ]
    rw [hi]; omega
theorem isB_set {xs : List Int} (h : IsB xs) (k : Nat) {v : Int} (h0 : 0 ≤ v) (h1 : v ≤ 255) : IsB (xs.set k v) := by
  intro j hj
  rw [List.length_set] at hj
  by_cases e : k = j
  · subst e; simp [hj, h0, h1]
  · rw [List.getD_eq_getElem?_getD, List.getElem?_set_ne e, ← List.getD_eq_getElem?_getD]
    exact h j hj
theorem getD_set_self {xs : List Int} {k : Nat} (v : Int) (h : k < xs.length) : (xs.set k v).getD k 0 = v := by simp [h]
theorem getD_set_ne {xs : List Int} {k j : Nat} (v : Int) (h : k ≠ j) : (xs.set k v).getD j 0 = xs.getD j 0 := by
  rw [List.getD_eq_getElem?_getD, List.getElem?_set_ne h, ← List.getD_eq_getElem?_getD]
/-- A word put at an even place. -/
def putw (xs : List Int) (k : Nat) (v : Int) : List Int := (xs.set k (v / 256)).set (k + 1) (v % 256)
theorem putw_len (xs : List Int) (k : Nat) (v : Int) : (putw xs k v).length = xs.length := by simp [putw]
theorem isB_putw {xs : List Int} (h : IsB xs) (k : Nat) {v : Int} (h0 : 0 ≤ v) (h1 : v ≤ 65535) : IsB (putw xs k v) :=
  isB_set (isB_set h _ (by omega) (by omega)) _ (by omega) (by omega)
theorem tot_putw {xs : List Int} {k : Nat} (v : Int) (he : k % 2 = 0) (hk : k + 1 < xs.length) :
    tot (putw xs k v) = tot xs - xs.getD k 0 * 256 - xs.getD (k + 1) 0 + v := by
  unfold putw
  rw [tot_set _ _ _ (by simpa using hk), tot_set _ _ _ (by omega), getD_set_ne _ (by omega)]
  have w1 : wt k = 256 := by unfold wt; rw [if_pos he]
  have w2 : wt (k + 1) = 1 := by unfold wt; rw [if_neg (by omega)]
  rw [w1, w2]; omega
theorem putw_getD_ne {xs : List Int} {k j : Nat} (v : Int) (h0 : j ≠ k) (h1 : j ≠ k + 1) : (putw xs k v).getD j 0 = xs.getD j 0 := by
  unfold putw
  rw [getD_set_ne _ (fun e => h1 e.symm), getD_set_ne _ (fun e => h0 e.symm)]
theorem putw_getD_0 {xs : List Int} {k : Nat} (v : Int) (h : k < xs.length) : (putw xs k v).getD k 0 = v / 256 := by
  unfold putw
  rw [getD_set_ne _ (by omega), getD_set_self _ h]
theorem putw_getD_1 {xs : List Int} {k : Nat} (v : Int) (h : k + 1 < xs.length) : (putw xs k v).getD (k + 1) 0 = v % 256 := by
  unfold putw
  rw [getD_set_self _ (by simpa using h)]
/-- What Put answers. -/
def put0 (xs : List Int) (k : Nat) : List Int := putw xs k 0
def putS (xs : List Int) (k : Nat) : List Int := putw (put0 xs k) k (ofs (put0 xs k))
theorem putw_putw (xs : List Int) (k : Nat) (u v : Int) : putw (putw xs k u) k v = putw xs k v := by
  unfold putw
  apply List.ext_getElem?
  intro i
  simp only [List.getElem?_set, List.length_set]
  by_cases h1 : k + 1 = i <;> by_cases h2 : k = i <;> simp [h1, h2] <;> omega
theorem put0_len (xs : List Int) (k : Nat) : (put0 xs k).length = xs.length := putw_len _ _ _
theorem putS_len (xs : List Int) (k : Nat) : (putS xs k).length = xs.length := by unfold putS; rw [putw_len, put0_len]
theorem isB_put0 {xs : List Int} (h : IsB xs) (k : Nat) : IsB (put0 xs k) := isB_putw h k (by omega) (by omega)
theorem isB_putS {xs : List Int} (h : IsB xs) (k : Nat) : IsB (putS xs k) :=
  isB_putw (isB_put0 h k) k (ofs_bd (isB_put0 h k)).1 (ofs_bd (isB_put0 h k)).2
theorem putS_getD_ne {xs : List Int} {k j : Nat} (h0 : j ≠ k) (h1 : j ≠ k + 1) : (putS xs k).getD j 0 = xs.getD j 0 := by
  unfold putS put0
  rw [putw_getD_ne _ h0 h1, putw_getD_ne _ h0 h1]
/-- What has its sum put into it is whole. -/
theorem ofs_putS {xs : List Int} (h : IsB xs) {k : Nat} (he : k % 2 = 0) (hk : k + 1 < xs.length) : ofs (putS xs k) = 0 := by
  have h0 : (put0 xs k).getD k 0 = 0 := by unfold put0; rw [putw_getD_0 _ (by omega)]; rfl
  have h1 : (put0 xs k).getD (k + 1) 0 = 0 := by unfold put0; rw [putw_getD_1 _ hk]; rfl
  have e : tot (putS xs k) = tot (put0 xs k) + ofs (put0 xs k) := by
    unfold putS
    rw [tot_putw _ he (by rw [put0_len]; exact hk), h0, h1]; omega
  have hp := tot_pos (isB_put0 h k)
  unfold ofs at e ⊢
  rw [e]
  generalize tot (put0 xs k) = t at *
  unfold nrm
  by_cases ht : t = 0
  · subst ht; simp
  · rw [if_neg ht, if_neg (by omega)]; omega
/-- Whole or not hangs on the total alone. -/
theorem ofs_zero {xs : List Int} (h : IsB xs) : ofs xs = 0 ↔ 0 < tot xs ∧ tot xs % 65535 = 0 := by
  have hp := tot_pos h
  unfold ofs nrm
  by_cases ht : tot xs = 0
  · simp [ht]
  · rw [if_neg ht]; omega
theorem tot_append : ∀ (xs ys : List Int), xs.length % 2 = 0 → tot (xs ++ ys) = tot xs + tot ys
  | [], ys, _ => by simp [tot]
  | [a], ys, h => by simp at h
  | a :: b :: r, ys, h => by
    have := tot_append r ys (by simp at h; omega)
    simp only [List.cons_append, tot]
    rw [this]; omega
theorem tot_zeros : ∀ (xs : List Int), tot (xs ++ [0, 0]) = tot xs
  | [] => by simp [tot]
  | [a] => by simp [tot]
  | a :: b :: r => by
    have := tot_zeros r
    simp only [List.cons_append, tot]
    rw [this]
theorem isB_append {xs ys : List Int} (h1 : IsB xs) (h2 : IsB ys) : IsB (xs ++ ys) := by
  intro k hk
  rw [List.length_append] at hk
  by_cases h : k < xs.length
  · rw [List.getD_eq_getElem?_getD, List.getElem?_append_left h, ← List.getD_eq_getElem?_getD]; exact h1 k h
  · rw [List.getD_eq_getElem?_getD, List.getElem?_append_right (by omega), ← List.getD_eq_getElem?_getD]; exact h2 _ (by omega)
theorem tot_rep : ∀ (n : Nat), tot (List.replicate n 0) = 0
  | 0 => by simp [tot]
  | 1 => by simp [tot, List.replicate]
  | n + 2 => by
    have := tot_rep n
    rw [List.replicate_succ, List.replicate_succ]
    simp only [tot]
    rw [this]; omega
theorem isB_rep (n : Nat) : IsB (List.replicate n 0) := by
  intro k hk
  simp at hk
  simp [hk]
end Go.Proofs.Ythmejokjbkkfbaa
