/- What is told in bytes is read as it was; how long what is read is; plainly. -/
import Derived.Test.YtmcnanoamgkljaaQ0
import Derived.Test.YtmcnanoamgkljaaQ1
import Derived.Test.YtmcnanoamgkljaaQ2
import Derived.Test.YtmcnanoamgkljaaQ3
import Derived.Test.YtmcnanoamgkljaaQ4
import Derived.Test.YtmcnanoamgkljaaQ5
import Derived.Test.YtmcnanoamgkljaaQ6
import Derived.Test.YtmcnanoamgkljaaQ7
import Derived.Test.YtmcnanoamgkljaaQ8
import Derived.Test.YtmcnanoamgkljaaQ9
import Derived.Test.YtmcnanoamgkljaaQ10
import Derived.Test.YtmcnanoamgkljaaQ11
namespace Go.Proofs.Ytmcnanoamgkljaa
set_option linter.unusedVariables false
open Go.RowKit

theorem rtake_app (l r : List Int) (s : Bool) {n : Nat} (h : l.length = n) : rtake n ⟨l ++ r, s⟩ = (l, ⟨r, s⟩) := by
  subst h
  unfold rtake
  rw [if_neg (by simp)]
  simp
theorem rone_app (a : Int) (r : List Int) (s : Bool) : rone ⟨a :: r, s⟩ = (a, ⟨r, s⟩) := by
  unfold rone
  rw [show a :: r = [a] ++ r from rfl, rtake_app (n := 1) [a] r s rfl]
  rfl
theorem rnum_app {n : Nat} (h : n ≤ 65535) (r : List Int) (s : Bool) : rnum ⟨two n ++ r, s⟩ = (n, ⟨r, s⟩) := by
  unfold rnum
  rw [rtake_app (n := 2) (two n) r s rfl]
  simp only [two, List.getD_cons_zero, List.getD_cons_succ]
  congr 1
  omega
theorem raddr_app {a : Int} (h : 0 ≤ a ∧ a ≤ 4294967295) (r : List Int) (s : Bool) : raddr ⟨l4 a ++ r, s⟩ = (a, ⟨r, s⟩) := by
  unfold raddr
  rw [rtake_app (n := 4) (l4 a) r s rfl]
  simp only [ofv_l4 h]
theorem raddrs_app : ∀ (l : List Int), IsA l → ∀ r, raddrs l.length ⟨ads l ++ r, false⟩ = (l, ⟨r, false⟩)
  | [], _, r => rfl
  | a :: l, h, r => by
    have h' := isA_cons.1 h
    rw [List.length_cons, raddrs, if_neg (by simp)]
    simp only [ads, List.append_assoc]
    rw [raddr_app h'.1]
    simp only
    rw [raddrs_app l h'.2 r]
theorem rrec_app (x : Rec) (h : RecOk x) (hl : x.srcs.length ≤ 65535) (r : List Int) : rrec ⟨recB x ++ r, false⟩ = (x, ⟨r, false⟩) := by
  unfold rrec recB
  simp only [List.append_assoc, List.cons_append, List.nil_append]
  rw [rone_app]
  simp only
  rw [rone_app]
  simp only
  rw [rnum_app hl]
  simp only
  rw [raddr_app h.2.1]
  simp only
  rw [raddrs_app _ h.2.2]
theorem rrecs_app : ∀ (l : List Rec), (∀ x ∈ l, RecOk x ∧ x.srcs.length ≤ 65535) → ∀ r, rrecs l.length ⟨recsB l ++ r, false⟩ = (l, ⟨r, false⟩)
  | [], _, r => rfl
  | x :: l, h, r => by
    have h' := h x (by simp)
    rw [List.length_cons, rrecs, if_neg (by simp)]
    simp only [recsB, List.append_assoc]
    rw [rrec_app x h'.1 h'.2]
    simp only
    rw [rrecs_app l (fun y hy => h y (by simp [hy])) r]
/-- The forms of right messages. -/
theorem right_forms {m : Msg} (h : right m = true) :
    (m = ⟨34, 0, 0, 0, false, 0, 0, [], m.recs⟩ ∧ okL m.recs = true) ∨ ((m.kind = 18 ∨ m.kind = 22 ∨ m.kind = 23) ∧ m = ⟨m.kind, 0, 0, m.grp, false, 0, 0, [], []⟩) ∨ m = ⟨17, 1, 0, 0, false, 0, 0, [], []⟩ ∨
      (m = ⟨17, 2, m.code, m.grp, false, 0, 0, [], []⟩ ∧ 0 < m.code) ∨ (m = ⟨17, 3, m.code, m.grp, m.quiet, m.rob, m.every, m.srcs, []⟩ ∧ m.rob < 8 ∧ m.srcs.length ≤ 64) := by
  obtain ⟨k, v, c, g, q, r, e, s, l⟩ := m
  unfold right bare at h
  simp only at h
  by_cases k34 : k = 34
  · rw [if_pos k34] at h
    simp only [Bool.and_eq_true, Bool.not_eq_true', beq_iff_eq, List.length_eq_zero_iff] at h
    obtain ⟨⟨⟨⟨⟨⟨⟨hq, hr⟩, he⟩, hs⟩, hv⟩, hc⟩, hg⟩, hl⟩ := h
    subst k34 hq hr he hs hv hc hg
    exact .inl ⟨rfl, hl⟩
  rw [if_neg k34] at h
  by_cases hl : 0 < l.length
  · rw [if_pos hl] at h; cases h
  rw [if_neg hl] at h
  obtain rfl : l = [] := List.eq_nil_of_length_eq_zero (by omega)
  by_cases k3 : k = 18 ∨ k = 22 ∨ k = 23
  · rw [if_pos k3] at h
    simp only [Bool.and_eq_true, Bool.not_eq_true', beq_iff_eq, List.length_eq_zero_iff] at h
    obtain ⟨⟨⟨⟨⟨⟨hq, hr⟩, he⟩, hs⟩, hv⟩, hc⟩, hg⟩ := h
    subst hq hr he hs hv hc
    exact .inr (.inl ⟨k3, rfl⟩)
  rw [if_neg k3] at h
  by_cases k17 : k = 17
  case neg => rw [if_neg k17] at h; cases h
  rw [if_pos k17] at h
  subst k17
  by_cases v1 : v = 1
  · rw [if_pos v1] at h
    simp only [Bool.and_eq_true, Bool.not_eq_true', beq_iff_eq, List.length_eq_zero_iff] at h
    obtain ⟨⟨⟨⟨⟨hq, hr⟩, he⟩, hs⟩, hc⟩, hg⟩ := h
    subst hq hr he hs v1 hc hg
    exact .inr (.inr (.inl rfl))
  rw [if_neg v1] at h
  by_cases v2 : v = 2
  · rw [if_pos v2] at h
    simp only [Bool.and_eq_true, Bool.not_eq_true', beq_iff_eq, List.length_eq_zero_iff, decide_eq_true_eq] at h
    obtain ⟨⟨⟨⟨⟨hq, hr⟩, he⟩, hs⟩, hc⟩, hg⟩ := h
    subst hq hr he hs v2
    exact .inr (.inr (.inr (.inl ⟨rfl, hc⟩)))
  rw [if_neg v2] at h
  by_cases v3 : v = 3
  case neg => rw [if_neg v3] at h; cases h
  rw [if_pos v3] at h
  subst v3
  simp only [Bool.and_eq_true, decide_eq_true_eq] at h
  exact .inr (.inr (.inr (.inr ⟨rfl, h.1.1, h.1.2⟩)))
theorem okL_len {l : List Rec} (h : okL l = true) : l.length ≤ 32 ∧ ∀ x ∈ l, x.srcs.length ≤ 64 := by
  unfold okL at h
  simp only [Bool.and_eq_true, decide_eq_true_eq, List.all_eq_true] at h
  refine ⟨h.1, fun x hx => ?_⟩
  have := h.2 x hx
  unfold okR at this
  simp only [Bool.and_eq_true, decide_eq_true_eq] at this
  exact this.2
/-- What stands behind the sum. -/
def tailM (m : Msg) : List Int := (if m.kind = 34 then repB m.recs else l4 m.grp) ++ (if m.ver = 3 then besB m else [])
theorem enc0_tail (m : Msg) : enc0 m = [m.kind, m.code, 0, 0] ++ tailM m := by unfold enc0 tailM; rw [List.append_assoc]
theorem tail34 {m : Msg} (h : m.kind = 34) (hv : m.ver ≠ 3) : tailM m = repB m.recs := by unfold tailM; rw [if_pos h, if_neg hv, List.append_nil]
theorem tail3 {m : Msg} (h : m.kind ≠ 34) (hv : m.ver = 3) : tailM m = l4 m.grp ++ besB m := by unfold tailM; rw [if_neg h, if_pos hv]
theorem tailO {m : Msg} (h : m.kind ≠ 34) (hv : m.ver ≠ 3) : tailM m = l4 m.grp ++ [] := by unfold tailM; rw [if_neg h, if_neg hv]
theorem len34 {m : Msg} (h : m.kind = 34) (hv : m.ver ≠ 3) : (enc0 m).length = 8 + recsN m.recs := by rw [enc0_len, if_pos h, if_neg hv]; omega
theorem len3 {m : Msg} (h : m.kind ≠ 34) (hv : m.ver = 3) : (enc0 m).length = 12 + 4 * m.srcs.length := by rw [enc0_len, if_neg h, if_pos hv]; omega
theorem lenO {m : Msg} (h : m.kind ≠ 34) (hv : m.ver ≠ 3) : (enc0 m).length = 8 := by rw [enc0_len, if_neg h, if_neg hv]
theorem isKind_right {m : Msg} (h : right m = true) : isKind m.kind = true := by
  rcases right_forms h with ⟨h, _⟩ | ⟨hk, h⟩ | h | ⟨h, _⟩ | ⟨h, _⟩
  · rw [h]; rfl
  · rcases hk with e | e | e <;> rw [e] <;> rfl
  · rw [h]; rfl
  · rw [h]; rfl
  · rw [h]; rfl
theorem encM_drop (m : Msg) : (encM m).drop 4 = tailM m := by
  have e : ∀ v : Int, (putw ([m.kind, m.code, 0, 0] ++ tailM m) 2 v).drop 4 = tailM m := fun v => by simp [putw]
  unfold encM putS
  rw [put0, putw_putw, enc0_tail]
  exact e _
theorem encM_len (m : Msg) : (encM m).length = (enc0 m).length := putS_len _ _
theorem encM_0 (m : Msg) : (encM m).getD 0 0 = m.kind := by unfold encM; rw [putS_getD_ne (by omega) (by omega)]; rfl
theorem encM_1 (m : Msg) : (encM m).getD 1 0 = m.code := by unfold encM; rw [putS_getD_ne (by omega) (by omega)]; rfl
theorem ofs_encM {m : Msg} (hf : m.fit) (h : right m = true) : ofs (encM m) = 0 := ofs_putS (isB_enc_m hf h) rfl (by have := (right_len h).1; omega)
theorem isB_encM {m : Msg} (hf : m.fit) (h : right m = true) : IsB (encM m) := isB_putS (isB_enc_m hf h) 2
theorem decN_enc {m : Msg} (hf : m.fit) (h : right m = true) : decN (encM m) = ⟨⟨[], false⟩, false, m⟩ := by
  unfold decN mBegin
  rw [encM_drop, encM_0, encM_1]
  have HF := hf
  obtain ⟨⟨hk, hv, hc, hg, hrb, he, _, _⟩, ha, hl⟩ := hf
  rcases right_forms h with ⟨h, ho⟩ | ⟨hk, h⟩ | h | ⟨h, h0⟩ | ⟨h, h0, h1⟩
  · obtain ⟨o1, o2⟩ := okL_len ho
    obtain ⟨l, el⟩ : ∃ l, l = m.recs := ⟨_, rfl⟩
    rw [← el] at h hl o1 o2
    rw [h]
    unfold tailM goOn goReport
    simp only [if_pos, m0]
    rw [if_neg (by decide), if_neg (by decide)]
    unfold repB
    simp only [List.append_assoc]
    rw [show ([0, 0] : List Int) = two 0 from rfl, rnum_app (by omega)]
    simp only
    rw [rnum_app (by omega)]
    simp only
    rw [rrecs_app l (fun x hx => ⟨hl x hx, by have := o2 x hx; omega⟩)]
    rfl
  · obtain ⟨k, ek⟩ : ∃ k, k = m.kind := ⟨_, rfl⟩
    obtain ⟨g, eg⟩ : ∃ g, g = m.grp := ⟨_, rfl⟩
    rw [← ek] at hk
    rw [← ek, ← eg] at h
    rw [← eg] at hg
    rw [h]
    have n17 : ¬ k = 17 := by omega
    have n34 : ¬ k = 34 := by omega
    unfold tailM goOn goGroup
    simp only [if_neg n17, if_neg n34, m0]
    rw [if_neg (by decide), raddr_app hg]
  · rw [h]
    rfl
  · obtain ⟨c, ec⟩ : ∃ c, c = m.code := ⟨_, rfl⟩
    obtain ⟨g, eg⟩ : ∃ g, g = m.grp := ⟨_, rfl⟩
    rw [← ec] at h0
    rw [← ec, ← eg] at h
    rw [← eg] at hg
    rw [h]
    have nc : ¬ c = 0 := by omega
    rw [tailO (show (17 : Int) ≠ 34 by decide) (show (2 : Int) ≠ 3 by decide)]
    unfold goOn goQuery
    simp only [m0]
    rw [if_pos trivial, if_neg (fun e => nc e.2), raddr_app hg]
    simp
  · obtain ⟨c, ec⟩ : ∃ c, c = m.code := ⟨_, rfl⟩
    obtain ⟨g, eg⟩ : ∃ g, g = m.grp := ⟨_, rfl⟩
    obtain ⟨q, eq⟩ : ∃ q, q = m.quiet := ⟨_, rfl⟩
    obtain ⟨r, er⟩ : ∃ r, r = m.rob := ⟨_, rfl⟩
    obtain ⟨e, ee⟩ : ∃ e, e = m.every := ⟨_, rfl⟩
    obtain ⟨s, es⟩ : ∃ s, s = m.srcs := ⟨_, rfl⟩
    rw [← er] at h0 hrb
    rw [← es] at h1 ha
    rw [← ec, ← eg, ← eq, ← er, ← ee, ← es] at h
    rw [← eg] at hg
    rw [h]
    have hlen : ¬ ((l4 g ++ besB ⟨17, 3, c, g, q, r, e, s, []⟩).length = 4 ∧ c = 0) := by
      rintro ⟨x, _⟩
      simp [besB, two, l4_len, ads_len] at x
    have hpos : 0 < (besB ⟨17, 3, c, g, q, r, e, s, []⟩).length := by simp [besB]
    rw [tail3 (show (17 : Int) ≠ 34 by decide) rfl]
    unfold goOn goQuery
    simp only [m0]
    rw [if_pos trivial, if_neg hlen, raddr_app hg]
    simp only [if_pos hpos]
    unfold goBeside besB
    have E := raddrs_app s ha []
    rw [List.append_nil] at E
    simp only [List.cons_append, List.nil_append, rone_app, rnum_app (show s.length ≤ 65535 by omega), E]
    have e1 : (r + if q = true then 8 else 0) % 8 = r := by split <;> omega
    have e2 : decide ((r + if q = true then 8 else 0) / 8 % 2 = 1) = q := by
      cases q
      · rw [decide_eq_false]; simp; omega
      · rw [decide_eq_true]; simp; omega
    rw [e1, e2]
theorem decE_enc {m : Msg} (hf : m.fit) (h : right m = true) : decE (encM m) = 0 := by
  unfold decE
  rw [encM_len, if_neg (by have := (right_len h).1; omega), ofs_encM hf h, if_neg (by simp), encM_0, isKind_right h, if_neg (by simp), decN_enc hf h]
  unfold endE
  simp [h]
theorem decM_enc {m : Msg} (hf : m.fit) (h : right m = true) : decM (encM m) = m := by
  unfold decM
  rw [decE_enc hf h, if_pos rfl, decN_enc hf h]
/-- What lies in memory fits. -/
theorem As.isA {w : World} {a : Option Addr} {xs : List Int} (h : As w a xs) : IsA xs := h.2
theorem Ms.fit {w : World} {m : Msg} {sa ra : Option Addr} (h : Ms w m sa ra) : m.fit := by
  refine ⟨h.2.2, h.1.isA, fun r hr => ?_⟩
  rcases h.2.1 with e | ⟨b, off, _, hc⟩
  · rw [e] at hr; cases hr
  · obtain ⟨k, hk⟩ := List.getElem?_of_mem hr
    obtain ⟨_, _, _, _, _, h3, h4, h5, _⟩ := hc k r hk
    exact ⟨h4, h5, h3.isA⟩
/-- How much is read. -/
theorem raddrs_n : ∀ (n : Nat) (s : St), (raddrs n s).2.short = false → (raddrs n s).1.length = n ∧ (raddrs n s).2.left.length + 4 * n = s.left.length
  | 0, s, h => ⟨rfl, rfl⟩
  | n + 1, s, h => by
    rw [raddrs] at h ⊢
    split at h
    · next hs => rw [hs] at h; cases h
    · next hs =>
      rw [if_neg hs]
      simp only at h ⊢
      have h1 := raddrs_n n _ h
      have h2 := rtake_ok (n := 4) (s := s) (raddrs_ok _ _ h).1
      have h3 := h1.2
      have h4 := h2.2.2
      unfold raddr at h3 ⊢
      simp only at h3 ⊢
      unfold raddr at h1
      simp only at h1
      refine ⟨by rw [List.length_cons, h1.1], by omega⟩
theorem rrec_n {s : St} (h : (rrec s).2.short = false) : (rrec s).2.left.length + (8 + 4 * (rrec s).1.srcs.length) = s.left.length := by
  have h5 := raddrs_ok _ _ h
  have h4 := rtake_ok (n := 4) h5.1
  have h3 := rtake_ok (n := 2) h4.1
  have h2 := rtake_ok (n := 1) h3.1
  have h1 := rtake_ok (n := 1) h2.1
  have a6 := raddrs_n _ _ h
  have b1 := a6.1
  have b2 := a6.2
  have a4 := h4.2.2
  have a3 := h3.2.2
  have a2 := h2.2.2
  have a1 := h1.2.2
  have e : (rrec s).2 = (raddrs (rnum (rone (rone s).2).2).1 (raddr (rnum (rone (rone s).2).2).2).2).2 := rfl
  have e' : (rrec s).1.srcs = (raddrs (rnum (rone (rone s).2).2).1 (raddr (rnum (rone (rone s).2).2).2).2).1 := rfl
  rw [e, e', b1]
  have c4 : (raddr (rnum (rone (rone s).2).2).2).2.left.length + 4 = (rnum (rone (rone s).2).2).2.left.length := a4
  have c3 : (rnum (rone (rone s).2).2).2.left.length + 2 = (rone (rone s).2).2.left.length := a3
  have c2 : (rone (rone s).2).2.left.length + 1 = (rone s).2.left.length := a2
  have c1 : (rone s).2.left.length + 1 = s.left.length := a1
  omega
theorem rrecs_n : ∀ (n : Nat) (s : St), (rrecs n s).2.short = false → (rrecs n s).2.left.length + recsN (rrecs n s).1 = s.left.length
  | 0, s, h => rfl
  | n + 1, s, h => by
    rw [rrecs] at h ⊢
    split at h
    · next hs => rw [hs] at h; cases h
    · next hs =>
      rw [if_neg hs]
      simp only [recsN] at h ⊢
      have h1 := rrecs_n n _ h
      have h2 := rrec_n (rrecs_ok n _ h)
      omega
set_option maxHeartbeats 4000000 in
/-- What is read of bytes has as many. -/
theorem dec_len {xs : List Int} (h : decE xs = 0) : right (decM xs) = true ∧ (enc0 (decM xs)).length = xs.length := by
  have hM : decM xs = (decN xs).m := by unfold decM; rw [if_pos h]
  rw [hM]
  unfold decE at h
  by_cases h8 : xs.length < 8
  · rw [if_pos h8] at h; cases h
  rw [if_neg h8] at h
  by_cases hs : ofs xs ≠ 0
  · rw [if_pos hs] at h; cases h
  rw [if_neg hs] at h
  by_cases hk : isKind (xs.getD 0 0) = false
  · rw [if_pos hk] at h; cases h
  rw [if_neg hk] at h
  unfold endE at h
  by_cases hsh : (decN xs).st.short = true
  · rw [if_pos hsh] at h; cases h
  rw [if_neg hsh] at h
  by_cases hw : 0 < (decN xs).st.left.length ∨ (decN xs).wrong = true ∨ right (decN xs).m = false
  · rw [if_pos hw] at h; cases h
  have hl : (decN xs).st.left.length = 0 := by omega
  have hr : right (decN xs).m = true := by
    cases e : right (decN xs).m with
    | true => rfl
    | false => exact absurd (.inr (.inr e)) hw
  have hsf : (decN xs).st.short = false := by simpa using hsh
  refine ⟨hr, ?_⟩
  clear hw h hM
  have L4 : (⟨xs.drop 4, false⟩ : St).left.length + 4 = xs.length := by simp; omega
  unfold decN at hl hsf ⊢
  generalize (⟨xs.drop 4, false⟩ : St) = s at L4 hl hsf ⊢
  unfold goOn at hl hsf ⊢
  by_cases k17 : (mBegin xs).kind = 17
  · rw [if_pos k17] at hl hsf ⊢
    have n34 : ¬ xs.getD 0 0 = 34 := by have : xs.getD 0 0 = 17 := k17; omega
    unfold goQuery at hl hsf ⊢
    by_cases q1 : s.left.length = 4 ∧ (mBegin xs).code = 0
    · rw [if_pos q1] at hl hsf ⊢
      refine (lenO n34 (show (1 : Int) ≠ 3 by decide)).trans ?_
      have := q1.1
      omega
    rw [if_neg q1] at hl hsf ⊢
    by_cases q3 : 0 < (raddr s).2.left.length
    · rw [if_pos q3] at hl hsf ⊢
      have h5 := raddrs_n _ _ hsf
      have h4 := rtake_ok (n := 2) (raddrs_ok _ _ hsf).1
      have h3 := rtake_ok (n := 1) h4.1
      have h2 := rtake_ok (n := 1) h3.1
      have h1 := rtake_ok (n := 4) h2.1
      have b1 := h5.1
      have b2 := h5.2
      have c4 : (rnum (rone (rone (raddr s).2).2).2).2.left.length + 2 = (rone (rone (raddr s).2).2).2.left.length := h4.2.2
      have c3 : (rone (rone (raddr s).2).2).2.left.length + 1 = (rone (raddr s).2).2.left.length := h3.2.2
      have c2 : (rone (raddr s).2).2.left.length + 1 = (raddr s).2.left.length := h2.2.2
      have c1 : (raddr s).2.left.length + 4 = s.left.length := h1.2.2
      have hl' : (raddrs (rnum (rone (rone (raddr s).2).2).2).1 (rnum (rone (rone (raddr s).2).2).2).2).2.left.length = 0 := hl
      refine (len3 n34 rfl).trans ?_
      show 12 + 4 * (raddrs (rnum (rone (rone (raddr s).2).2).2).1 (rnum (rone (rone (raddr s).2).2).2).2).1.length = _
      omega
    · rw [if_neg q3] at hl hsf ⊢
      have h1 := rtake_ok (n := 4) (s := s) hsf
      have c1 : (raddr s).2.left.length + 4 = s.left.length := h1.2.2
      refine (lenO n34 (show (2 : Int) ≠ 3 by decide)).trans ?_
      omega
  rw [if_neg k17] at hl hsf ⊢
  by_cases k34 : (mBegin xs).kind = 34
  · rw [if_pos k34] at hl hsf ⊢
    have e34 : xs.getD 0 0 = 34 := k34
    unfold goReport at hl hsf ⊢
    simp only at hl hsf ⊢
    have h3 := rrecs_n _ _ hsf
    have h2 := rtake_ok (n := 2) (rrecs_ok _ _ hsf)
    have h1 := rtake_ok (n := 2) h2.1
    have c2 : (rnum (rnum s).2).2.left.length + 2 = (rnum s).2.left.length := h2.2.2
    have c1 : (rnum s).2.left.length + 2 = s.left.length := h1.2.2
    refine (len34 e34 (show (0 : Int) ≠ 3 by decide)).trans ?_
    show 8 + recsN ([] ++ (rrecs (rnum (rnum s).2).1 (rnum (rnum s).2).2).1) = _
    rw [List.nil_append]
    omega
  · rw [if_neg k34] at hl hsf ⊢
    have n34 : ¬ xs.getD 0 0 = 34 := k34
    unfold goGroup at hl hsf ⊢
    simp only at hl hsf ⊢
    have h1 := rtake_ok (n := 4) (s := s) hsf
    have c1 : (raddr s).2.left.length + 4 = s.left.length := h1.2.2
    refine (lenO n34 (show (0 : Int) ≠ 3 by decide)).trans ?_
    omega
theorem dec_not {xs : List Int} (h : decE xs ≠ 0) : decM xs = m0 := by unfold decM; rw [if_neg h]
/-- One byte more: none. -/
theorem enc_more {m : Msg} (hf : m.fit) (h : right m = true) : decE (encM m ++ [0]) ≠ 0 := by
  intro e
  have h1 := dec_len e
  have h2 := h1.2
  have hr := right_len h
  -- the same kind and code, so the same lengths but for one
  rw [List.length_append, encM_len] at h2
  have e4 : ∀ x : Msg, (enc0 x).length % 4 = 0 := fun x => by
    rw [enc0_len]
    have : ∀ l, recsN l % 4 = 0 := by
      intro l
      induction l with
      | nil => rfl
      | cons r l ih => simp only [recsN]; omega
    have := this x.recs
    split <;> split <;> omega
  have a := e4 m
  have b := e4 (decM (encM m ++ [0]))
  simp at h2
  omega
end Go.Proofs.Ytmcnanoamgkljaa
/- A message that came in: its numbers, its sources, its records. -/
namespace Go.Proofs.Ytmcnanoamgkljaa
set_option linter.unusedVariables false
open Go.ChangeShapes Go.WideShapes Go.ChangeAt Go.RowKit Go.Deep

section
variable {H : Type} {enc : TypeId × Value → H} {w : World} {base : Nat} {held : Bool}
theorem get_field {P : Program} {spare : Nat → Bool} {n : Nat} {fs : Array Field} {l : List Value} {xs : List (DataW H × List MemPlace)}
    (hg : ∀ (i : Nat) (f : Field), fs[i]? = some f → DataW.trod enc P w base spare held n f.type ((l.drop f.offset).take (P.cellsOf f.type)) = xs[i]?) (i : Nat) {f : Field} (off : Nat) (ty : TypeId) (k : Nat) (hf : fs[i]? = some f) (ho : f.offset = off) (ht : f.type = ty) (hk : P.cellsOf ty = k) (hlen : i < xs.length) :
    DataW.trod enc P w base spare held n ty ((l.drop off).take k) = some xs[i] := by
  have := hg i f hf
  rw [ho, ht, hk, List.getElem?_eq_getElem hlen] at this
  exact this
theorem weights_all {P : Program} {e : TypeId} : ∀ {l : List (DataW H)} {d : DataW H}, d ∈ l → ∀ n ∈ d.weights P e, n ∈ DataW.weightsAll P e l
  | d0 :: l, d, hd, n, hn => by
    unfold DataW.weightsAll
    rw [List.mem_append]
    rcases List.mem_cons.1 hd with rfl | hd
    · exact .inl hn
    · exact .inr (weights_all hd n hn)
theorem open_as {fuel : Nat} {c : Value} {y : DataW H × List MemPlace} (h : DataW.trod enc Try.prog w base (fun _ => true) held fuel 24 [c] = some y) (hz : ∀ n ∈ y.1.weights Try.prog 24, n ≤ reachBytes) :
    ∃ a cp xs, c = .slice a (List.length xs) cp ∧ As w a xs ∧ xs.length ≤ 1125899906842624 := by
  rcases open_ints Try.underlying24 Try.underlying23 (by kernel_rfl) h with ⟨hcs, _⟩ | ⟨x, l, cp, zs, hcs, _, hl, hm, hzl, hx, hcell, hwz⟩
  · simp at hcs
    exact ⟨none, 0, [], hcs, As.nil _ _, by simp⟩
  · simp at hcs hzl
    have hlen : (zs.take l).length = l := by rw [List.length_take]; omega
    have hget : ∀ k, k < l → (zs.take l).getD k 0 = zs.getD k 0 := by
      intro k hk
      rw [List.getD_eq_getElem?_getD, List.getD_eq_getElem?_getD, List.getElem?_take_of_lt hk]
    have hby : Try.prog.bytesOf 23 = 4 := by kernel_rfl
    have hw := hz ((l + (zs.length - l)) * 4) (by rw [hx]; simp [DataW.weights, Try.underlying24, lits, hby]; left; omega)
    refine ⟨some x, cp, zs.take l, by rw [hlen]; exact hcs, ⟨?_, ?_⟩, by rw [hlen]; unfold reachBytes at hw; omega⟩
    · by_cases h0 : l = 0
      · subst h0; exact .inl (by simp)
      · obtain ⟨b, off, spot⟩ := x
        have hs : spot = none := by
          have := hcell 0 (by omega)
          simpa [Addr.add] using World.cell?_spot this
        subst hs
        refine .inr ⟨b, off, rfl, fun k hk => ?_⟩
        rw [hlen] at hk
        have := hcell k (by omega)
        rw [hget k hk, ← this, add_flat]
    · intro k hk
      rw [hlen] at hk
      rw [hget k hk]
      have hmem : zs.getD k 0 ∈ zs := by
        rw [List.getD_eq_getElem?_getD, List.getElem?_eq_getElem (by omega)]
        exact List.getElem_mem _
      exact u32_bd (hwz _ hmem)
theorem list_of {α : Type} (R : Nat → α → Prop) : ∀ n : Nat, (∀ i, i < n → ∃ r, R i r) → ∃ l : List α, l.length = n ∧ ∀ k r, l[k]? = some r → R k r
  | 0, _ => ⟨[], rfl, fun k r h => by simp at h⟩
  | n + 1, h => by
    obtain ⟨l, hl, hr⟩ := list_of R n fun i hi => h i (by omega)
    obtain ⟨r, hn⟩ := h n (by omega)
    refine ⟨l ++ [r], by simp [hl], fun k r' hk => ?_⟩
    by_cases h' : k < n
    · rw [List.getElem?_append_left (by omega)] at hk
      exact hr k r' hk
    · rw [List.getElem?_append_right (by omega)] at hk
      have e : k - l.length = 0 := by
        have := (List.getElem?_eq_some_iff.1 hk).1
        simp at this; omega
      rw [e] at hk
      simp at hk
      subst hk
      rwa [show k = n by omega]
theorem open_rec {fuel : Nat} {c0 c1 c2 : Value} {y : DataW H × List MemPlace} {b o : Nat} (h : DataW.trod enc Try.prog w base (fun _ => true) held fuel 44 [c0, c1, c2] = some y) (hz : ∀ n ∈ y.1.weights Try.prog 44, n ≤ reachBytes)
    (h0 : w.cell? ⟨b, o, none⟩ = some c0) (h1 : w.cell? ⟨b, o + 1, none⟩ = some c1) (h2 : w.cell? ⟨b, o + 2, none⟩ = some c2) : ∃ r, RecAt w b o r := by
  obtain ⟨xs, n, _, hx, _, hlen, hg⟩ := DataW.trod_struct Try.underlying44 h
  have hl3 : xs.length = 3 := by rw [hlen]; rfl
  have g0 := get_field hg 0 0 5 1 rfl rfl rfl (by kernel_rfl) (by omega)
  have g1 := get_field hg 1 1 23 1 rfl rfl rfl (by kernel_rfl) (by omega)
  have g2 := get_field hg 2 2 24 1 rfl rfl rfl (by kernel_rfl) (by omega)
  obtain ⟨t, q0, _, w0⟩ := DataW.trod_int Try.underlying5 g0
  obtain ⟨g, q1, _, w1⟩ := DataW.trod_int Try.underlying23 g1
  have hw2 : ∀ n ∈ (xs[2]'(by omega)).1.weights Try.prog 24, n ≤ reachBytes := by
    intro n hn
    refine hz n ?_
    rw [hx]
    unfold DataW.weights
    simp only [Try.underlying44]
    exact DataW.weights_mem_each (j := 2) rfl (by rw [List.getElem?_map, List.getElem?_eq_getElem (by omega)]; rfl) n hn
  obtain ⟨a, cp, zs, q2, ha, hn⟩ := open_as g2 hw2
  simp at q0 q1
  subst q0 q1 q2
  exact ⟨⟨t, g, zs⟩, a, cp, h0, h1, h2, ha, u8_bd w0, u32_bd w1, hn⟩
theorem open_recs {fuel : Nat} {c : Value} {y : DataW H × List MemPlace} (h : DataW.trod enc Try.prog w base (fun _ => true) held fuel 25 [c] = some y) (hz : ∀ n ∈ y.1.weights Try.prog 25, n ≤ reachBytes) :
    ∃ a cp rs, c = .slice a (List.length rs) cp ∧ Rs w a rs ∧ rs.length ≤ 1125899906842624 := by
  have e3 : Try.prog.cellsOf 44 = 3 := by kernel_rfl
  have hby : Try.prog.bytesOf 44 = 32 := by kernel_rfl
  rcases open_slice Try.underlying25 h with ⟨hcs, _⟩ | ⟨⟨b, off, spot⟩, len, cap, m, n, D, Pl, hcs, _, hl, hm, hmm, hx, hi⟩
  · simp at hcs
    exact ⟨none, 0, [], hcs, Rs.nil _ _, by simp⟩
  simp at hcs
  subst hcs
  rw [hx] at hz
  unfold DataW.weights at hz
  simp only [Try.underlying25] at hz
  have hw := hz _ (List.mem_cons_self ..)
  have hlen : len ≤ 1125899906842624 := by
    simp only [List.length_map, List.length_range, hby] at hw
    unfold reachBytes at hw
    omega
  have hs : 0 < len → spot = none := by
    intro h0
    obtain ⟨cs', hc, ht⟩ := hi 0 (by rw [hmm]; simp; omega)
    rw [e3] at hc
    obtain ⟨_, hcl, hat⟩ := World.cells?_some hc
    match cs', hcl with
    | [c0, c1, c2], _ =>
    have a0 := hat 0 (by omega)
    have := World.cell?_spot a0
    simpa [Addr.add] using this
  by_cases h0 : len = 0
  · subst h0
    exact ⟨_, cap, [], rfl, Rs.nil _ _, by simp⟩
  obtain rfl := hs (by omega)
  have each : ∀ i, i < len → ∃ r, RecAt w b (off + i * 3) r := by
    intro i hil
    obtain ⟨cs', hc, ht⟩ := hi i (by rw [hmm]; simp; omega)
    rw [e3] at hc
    obtain ⟨_, hcl, hat⟩ := World.cells?_some hc
    match cs', hcl with
    | [c0, c1, c2], _ =>
    have a0 := hat 0 (by omega)
    have a1 := hat 1 (by omega)
    have a2 := hat 2 (by omega)
    rw [add_flat, add_flat] at a0 a1 a2
    refine open_rec (y := (D i, Pl i)) ht (fun x hx' => hz x ?_) a0 a1 a2
    refine List.mem_cons_of_mem _ (List.mem_append_left _ (weights_all (d := D i) ?_ x hx'))
    exact List.mem_map.2 ⟨i, List.mem_range.2 hil, rfl⟩
  obtain ⟨rs, hrl, hr⟩ := list_of (fun i r => RecAt w b (off + i * 3) r) len each
  subst hrl
  exact ⟨_, cap, rs, rfl, .inr ⟨b, off, rfl, hr⟩, hlen⟩
/-- A message that came in. -/
theorem open_msg {r : Reach} {b0 : Nat} {v : Value} {d : DataW H} {p : List MemPlace}
    (hv : Value.okWide Try.prog w r b0 27 v) (h : DataW.Trod enc Try.prog w base (fun _ => true) held 27 v d p) (hz : ∀ n ∈ d.weights Try.prog 27, n ≤ reachBytes) :
    ∃ (m : Msg) (sa : Option Addr) (sc : Nat) (ra : Option Addr) (rc : Nat), v = .agg #[.int .u8 m.kind, .int .i64 m.ver, .int .u8 m.code, .int .u32 m.grp, .bool m.quiet, .int .u8 m.rob, .int .u8 m.every, .slice sa m.srcs.length sc, .slice ra m.recs.length rc] ∧ Ms w m sa ra := by
  obtain ⟨cs, rfl, hsz⟩ := okWide_struct Try.underlying27 hv
  obtain ⟨l⟩ := cs
  have hl : l.length = 9 := by
    have : Try.prog.cellsOf 27 = 9 := by kernel_rfl
    rw [← this, ← hsz]; rfl
  match l, hl with
  | [c0, c1, c2, c3, c4, c5, c6, c7, c8], _ =>
  obtain ⟨fuel, hf⟩ := h
  obtain ⟨xs, n, _, hx, _, hlen, hg⟩ := DataW.trod_struct Try.underlying27 hf
  have hl9 : xs.length = 9 := by rw [hlen]; rfl
  have eA : Try.prog.cellsOf 23 = 1 := by kernel_rfl
  have e8 : Try.prog.cellsOf 5 = 1 := by kernel_rfl
  have eb : Try.prog.cellsOf 4 = 1 := by kernel_rfl
  have ei : Try.prog.cellsOf 3 = 1 := by kernel_rfl
  have es : Try.prog.cellsOf 24 = 1 := by kernel_rfl
  have er : Try.prog.cellsOf 25 = 1 := by kernel_rfl
  have g0 := get_field hg 0 0 5 1 rfl rfl rfl e8 (by omega)
  have g1 := get_field hg 1 1 3 1 rfl rfl rfl ei (by omega)
  have g2 := get_field hg 2 2 5 1 rfl rfl rfl e8 (by omega)
  have g3 := get_field hg 3 3 23 1 rfl rfl rfl eA (by omega)
  have g4 := get_field hg 4 4 4 1 rfl rfl rfl eb (by omega)
  have g5 := get_field hg 5 5 5 1 rfl rfl rfl e8 (by omega)
  have g6 := get_field hg 6 6 5 1 rfl rfl rfl e8 (by omega)
  have g7 := get_field hg 7 7 24 1 rfl rfl rfl es (by omega)
  have g8 := get_field hg 8 8 25 1 rfl rfl rfl er (by omega)
  obtain ⟨v0, q0, _, w0⟩ := DataW.trod_int Try.underlying5 g0
  obtain ⟨v1, q1, _, w1⟩ := DataW.trod_int Try.underlying3 g1
  obtain ⟨v2, q2, _, w2⟩ := DataW.trod_int Try.underlying5 g2
  obtain ⟨v3, q3, _, w3⟩ := DataW.trod_int Try.underlying23 g3
  obtain ⟨v4, q4, _⟩ := DataW.trod_bool Try.underlying4 g4
  obtain ⟨v5, q5, _, w5⟩ := DataW.trod_int Try.underlying5 g5
  obtain ⟨v6, q6, _, w6⟩ := DataW.trod_int Try.underlying5 g6
  have hd : d = .agg (xs.map (·.1)) := by
    have := congrArg Prod.fst hx
    exact this
  have hw7 : ∀ n ∈ (xs[7]'(by omega)).1.weights Try.prog 24, n ≤ reachBytes := by
    intro n hn
    refine hz n ?_
    rw [hd]
    unfold DataW.weights
    simp only [Try.underlying27]
    exact DataW.weights_mem_each (j := 7) rfl (by rw [List.getElem?_map, List.getElem?_eq_getElem (by omega)]; rfl) n hn
  have hw8 : ∀ n ∈ (xs[8]'(by omega)).1.weights Try.prog 25, n ≤ reachBytes := by
    intro n hn
    refine hz n ?_
    rw [hd]
    unfold DataW.weights
    simp only [Try.underlying27]
    exact DataW.weights_mem_each (j := 8) rfl (by rw [List.getElem?_map, List.getElem?_eq_getElem (by omega)]; rfl) n hn
  obtain ⟨sa, sc, ss, q7, hs, hsl⟩ := open_as g7 hw7
  obtain ⟨ra, rc, rs, q8, hr, hrl⟩ := open_recs g8 hw8
  simp [Value.cells] at q0 q1 q2 q3 q4 q5 q6
  subst q0 q1 q2 q3 q4 q5 q6 q7 q8
  exact ⟨⟨v0, v1, v2, v3, v4, v5, v6, ss, rs⟩, sa, sc, ra, rc, rfl, hs, hr, u8_bd w0, i64_bd w1, u8_bd w2, u32_bd w3, u8_bd w5, u8_bd w6, hsl, hrl⟩
end
end Go.Proofs.Ytmcnanoamgkljaa
