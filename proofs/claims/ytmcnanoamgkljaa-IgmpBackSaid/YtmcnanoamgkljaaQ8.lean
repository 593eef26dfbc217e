/- The message of bytes by places, plainly: what the document's own answer goes by. -/
import Derived.Test.YtmcnanoamgkljaaQ0
import Derived.Test.YtmcnanoamgkljaaQ1
import Derived.Test.YtmcnanoamgkljaaQ2
import Derived.Test.YtmcnanoamgkljaaQ3
import Derived.Test.YtmcnanoamgkljaaQ4
import Derived.Test.YtmcnanoamgkljaaQ5
import Derived.Test.YtmcnanoamgkljaaQ6
import Derived.Test.YtmcnanoamgkljaaQ7
import Derived.Deep.RegionHeld3
namespace Go.Proofs.Ytmcnanoamgkljaa
set_option linter.unusedVariables false

/-- So many addresses from a place on. -/
def manyV (xs : List Int) (i : Nat) : Nat → List Int
  | 0 => []
  | n + 1 => ofv ((xs.drop i).take 4) :: manyV xs (i + 4) n
/-- A number at a place. -/
def numV (xs : List Int) (i : Nat) : Nat := (xs.getD i 0 * 256 + xs.getD (i + 1) 0).toNat
/-- Records from a place on, and where they end. -/
def recsV (xs : List Int) : Nat → Nat → Option (List Rec × Nat)
  | 0, i => some ([], i)
  | k + 1, i =>
    if xs.length < i + 8 then none
    else if xs.length < i + 8 + 4 * numV xs (i + 2) then none
    else (recsV xs k (i + 8 + 4 * numV xs (i + 2))).map fun r => (⟨xs.getD i 0, ofv ((xs.drop (i + 4)).take 4), manyV xs (i + 8) (numV xs (i + 2))⟩ :: r.1, r.2)
theorem rtake_at (xs : List Int) (i n : Nat) (h : i + n ≤ xs.length) : rtake n ⟨xs.drop i, false⟩ = ((xs.drop i).take n, ⟨xs.drop (i + n), false⟩) := by
  unfold rtake
  rw [if_neg (by simp only [List.length_drop]; omega)]
  simp [List.drop_drop]
theorem rtake_ok {n : Nat} {s : St} (h : (rtake n s).2.short = false) : s.short = false ∧ n ≤ s.left.length ∧ (rtake n s).2.left.length + n = s.left.length := by
  unfold rtake at h ⊢
  split at h
  · simp at h
  · next hn =>
    rw [if_neg hn]
    simp only at h ⊢
    refine ⟨h, by omega, by simp; omega⟩
theorem getD_dt (xs : List Int) (i n k : Nat) (h : k < n) : ((xs.drop i).take n).getD k 0 = xs.getD (i + k) 0 := by
  rw [List.getD_eq_getElem?_getD, List.getElem?_take_of_lt h, List.getElem?_drop, ← List.getD_eq_getElem?_getD]
theorem rone_at (xs : List Int) (i : Nat) (h : i + 1 ≤ xs.length) : rone ⟨xs.drop i, false⟩ = (xs.getD i 0, ⟨xs.drop (i + 1), false⟩) := by
  unfold rone
  rw [rtake_at xs i 1 h]
  simp only [getD_dt xs i 1 0 (by omega), Nat.add_zero]
theorem rnum_at (xs : List Int) (i : Nat) (h : i + 2 ≤ xs.length) : rnum ⟨xs.drop i, false⟩ = (numV xs i, ⟨xs.drop (i + 2), false⟩) := by
  unfold rnum numV
  rw [rtake_at xs i 2 h]
  simp only [getD_dt xs i 2 0 (by omega), getD_dt xs i 2 1 (by omega), Nat.add_zero]
theorem raddr_at (xs : List Int) (i : Nat) (h : i + 4 ≤ xs.length) : raddr ⟨xs.drop i, false⟩ = (ofv ((xs.drop i).take 4), ⟨xs.drop (i + 4), false⟩) := by
  unfold raddr
  rw [rtake_at xs i 4 h]
theorem raddrs_at (xs : List Int) : ∀ (n i : Nat), i + 4 * n ≤ xs.length → raddrs n ⟨xs.drop i, false⟩ = (manyV xs i n, ⟨xs.drop (i + 4 * n), false⟩)
  | 0, i, h => rfl
  | n + 1, i, h => by
    rw [raddrs, if_neg (by simp), raddr_at xs i (by omega)]
    simp only
    rw [raddrs_at xs n (i + 4) (by omega)]
    simp only [manyV]
    rw [show i + 4 + 4 * n = i + 4 * (n + 1) by omega]
theorem raddrs_ok : ∀ (n : Nat) (s : St), (raddrs n s).2.short = false → s.short = false ∧ 4 * n ≤ s.left.length
  | 0, s, h => ⟨h, by omega⟩
  | n + 1, s, h => by
    rw [raddrs] at h
    split at h
    · next hs => rw [hs] at h; cases h
    · have h1 := raddrs_ok n _ h
      have h2 := rtake_ok (n := 4) (s := s) h1.1
      have h3 := h1.2
      have h4 := h2.2.2
      unfold raddr at h3
      simp only at h3
      exact ⟨h2.1, by omega⟩
theorem rrec_at (xs : List Int) (i : Nat) (h : i + 8 ≤ xs.length) (h2 : i + 8 + 4 * numV xs (i + 2) ≤ xs.length) :
    rrec ⟨xs.drop i, false⟩ = (⟨xs.getD i 0, ofv ((xs.drop (i + 4)).take 4), manyV xs (i + 8) (numV xs (i + 2))⟩, ⟨xs.drop (i + 8 + 4 * numV xs (i + 2)), false⟩) := by
  unfold rrec
  rw [rone_at xs i (by omega)]
  simp only
  rw [rone_at xs (i + 1) (by omega)]
  simp only
  rw [rnum_at xs (i + 1 + 1) (by omega)]
  simp only
  rw [raddr_at xs (i + 1 + 1 + 2) (by omega)]
  simp only
  rw [raddrs_at xs _ (i + 1 + 1 + 2 + 4) (by rw [show i + 1 + 1 = i + 2 by omega]; omega)]
theorem rrec_ok {s : St} (h : (rrec s).2.short = false) : s.short = false ∧ 8 ≤ s.left.length ∧ 8 + 4 * (rnum (rone (rone s).2).2).1 ≤ s.left.length := by
  have h5 := raddrs_ok _ _ h
  have h4 := rtake_ok (n := 4) h5.1
  have h3 := rtake_ok (n := 2) h4.1
  have h2 := rtake_ok (n := 1) h3.1
  have h1 := rtake_ok (n := 1) h2.1
  have a5 := h5.2
  have a4 := h4.2.2
  have a3 := h3.2.2
  have a2 := h2.2.2
  have a1 := h1.2.2
  unfold raddr rnum rone at a5
  unfold rnum rone at a4
  unfold rone at a3
  unfold rone at a2
  unfold rnum rone
  simp only at a5 a4 a3 a2 ⊢
  exact ⟨h1.1, by omega, by omega⟩
theorem rrecs_ok : ∀ (n : Nat) (s : St), (rrecs n s).2.short = false → s.short = false
  | 0, s, h => h
  | n + 1, s, h => by
    rw [rrecs] at h
    split at h
    · next hs => rw [hs] at h; cases h
    · next hs => simpa using hs
theorem rrecs_at (xs : List Int) : ∀ (n i : Nat), i ≤ xs.length →
    (∀ l e, recsV xs n i = some (l, e) → rrecs n ⟨xs.drop i, false⟩ = (l, ⟨xs.drop e, false⟩) ∧ e ≤ xs.length) ∧ (recsV xs n i = none → (rrecs n ⟨xs.drop i, false⟩).2.short = true)
  | 0, i, hi => by
    refine ⟨fun l e h => ?_, fun h => by simp [recsV] at h⟩
    simp only [recsV, Option.some.injEq, Prod.mk.injEq] at h
    obtain ⟨rfl, rfl⟩ := h
    exact ⟨rfl, hi⟩
  | n + 1, i, hi => by
    have hlen : (⟨xs.drop i, false⟩ : St).left.length = xs.length - i := List.length_drop
    have hsf : ¬ (⟨xs.drop i, false⟩ : St).short = true := by simp
    rw [recsV, rrecs, if_neg hsf]
    by_cases h8 : xs.length < i + 8
    · rw [if_pos h8]
      refine ⟨fun l e h => (by cases h), fun _ => ?_⟩
      cases hb : (rrecs n (rrec ⟨xs.drop i, false⟩).2).2.short with
      | true => rfl
      | false =>
        have := (rrec_ok (rrecs_ok _ _ hb)).2.1
        rw [hlen] at this; omega
    rw [if_neg h8]
    by_cases hn : xs.length < i + 8 + 4 * numV xs (i + 2)
    · rw [if_pos hn]
      refine ⟨fun l e h => (by cases h), fun _ => ?_⟩
      cases hb : (rrecs n (rrec ⟨xs.drop i, false⟩).2).2.short with
      | true => rfl
      | false =>
        have := (rrec_ok (rrecs_ok _ _ hb)).2.2
        rw [rone_at xs i (by omega)] at this
        simp only at this
        rw [rone_at xs (i + 1) (by omega)] at this
        simp only at this
        rw [rnum_at xs (i + 1 + 1) (by omega)] at this
        simp only [List.length_drop] at this
        rw [show i + 1 + 1 = i + 2 by omega] at this
        omega
    rw [if_neg hn, rrec_at xs i (by omega) (by omega)]
    simp only
    obtain ⟨ih1, ih2⟩ := rrecs_at xs n (i + 8 + 4 * numV xs (i + 2)) (by omega)
    refine ⟨fun l e h => ?_, fun h => ?_⟩
    · cases hr : recsV xs n (i + 8 + 4 * numV xs (i + 2)) with
      | none => rw [hr] at h; simp at h
      | some r =>
        rw [hr] at h
        simp only [Option.map_some, Option.some.injEq, Prod.mk.injEq] at h
        obtain ⟨rfl, rfl⟩ := h
        have := ih1 r.1 r.2 hr
        rw [this.1]
        exact ⟨rfl, this.2⟩
    · cases hr : recsV xs n (i + 8 + 4 * numV xs (i + 2)) with
      | none => exact ih2 hr
      | some r => rw [hr] at h; simp at h
end Go.Proofs.Ytmcnanoamgkljaa
/- How a message goes on, by places. -/
namespace Go.Proofs.Ytmcnanoamgkljaa
set_option linter.unusedVariables false

theorem goOn_g {m : Msg} {s : St} (h : m.kind = 18 ∨ m.kind = 22 ∨ m.kind = 23) : goOn m s = ⟨(goGroup m s).2, false, (goGroup m s).1⟩ := by
  unfold goOn
  rw [if_neg (by omega), if_neg (by omega)]
theorem decN_g {xs : List Int} (h8 : 8 ≤ xs.length) (hk : xs.getD 0 0 = 18 ∨ xs.getD 0 0 = 22 ∨ xs.getD 0 0 = 23) :
    decN xs = ⟨⟨xs.drop 8, false⟩, false, { mBegin xs with grp := ofv ((xs.drop 4).take 4) }⟩ := by
  unfold decN
  rw [goOn_g hk]
  unfold goGroup
  rw [raddr_at xs 4 (by omega)]
theorem decN_r {xs : List Int} (h8 : 8 ≤ xs.length) (hk : xs.getD 0 0 = 34) {l : List Rec} {e : Nat} (hr : recsV xs (numV xs 6) 8 = some (l, e)) :
    decN xs = ⟨⟨xs.drop e, false⟩, decide (numV xs 4 ≠ 0), { mBegin xs with recs := l }⟩ ∧ e ≤ xs.length := by
  have hk' : (mBegin xs).kind = 34 := hk
  have h17 : ¬ (mBegin xs).kind = 17 := by omega
  unfold decN goOn
  rw [if_neg h17, if_pos hk']
  unfold goReport
  rw [rnum_at xs 4 (by omega)]
  simp only
  rw [rnum_at xs (4 + 2) (by omega)]
  simp only
  have := (rrecs_at xs (numV xs 6) 8 h8).1 l e hr
  rw [show 4 + 2 + 2 = 8 from rfl, show 4 + 2 = 6 from rfl, this.1]
  exact ⟨rfl, this.2⟩
theorem decN_rn {xs : List Int} (h8 : 8 ≤ xs.length) (hk : xs.getD 0 0 = 34) (hr : recsV xs (numV xs 6) 8 = none) : (decN xs).st.short = true := by
  have hk' : (mBegin xs).kind = 34 := hk
  have h17 : ¬ (mBegin xs).kind = 17 := by omega
  unfold decN goOn
  rw [if_neg h17, if_pos hk']
  unfold goReport
  rw [rnum_at xs 4 (by omega)]
  simp only
  rw [rnum_at xs (4 + 2) (by omega)]
  simp only
  exact (rrecs_at xs (numV xs 6) 8 h8).2 hr
theorem decN_q {xs : List Int} (hk : xs.getD 0 0 = 17) : decN xs = ⟨(goQuery (mBegin xs) ⟨xs.drop 4, false⟩).2, false, (goQuery (mBegin xs) ⟨xs.drop 4, false⟩).1⟩ := by
  have hk' : (mBegin xs).kind = 17 := hk
  unfold decN goOn
  rw [if_pos hk']
theorem left4 (xs : List Int) : (⟨xs.drop 4, false⟩ : St).left.length = xs.length - 4 := List.length_drop
theorem decN_q1 {xs : List Int} (h8 : xs.length = 8) (hk : xs.getD 0 0 = 17) (hc : xs.getD 1 0 = 0) : decN xs = ⟨⟨xs.drop 8, false⟩, false, { mBegin xs with ver := 1 }⟩ := by
  rw [decN_q hk]
  unfold goQuery
  rw [if_pos ⟨by rw [left4]; omega, hc⟩, raddr_at xs 4 (by omega)]
theorem decN_q2 {xs : List Int} (h8 : xs.length = 8) (hk : xs.getD 0 0 = 17) (hc : xs.getD 1 0 ≠ 0) : decN xs = ⟨⟨xs.drop 8, false⟩, false, { mBegin xs with ver := 2, grp := ofv ((xs.drop 4).take 4) }⟩ := by
  have hn : ¬ ((⟨xs.drop 4, false⟩ : St).left.length = 4 ∧ (mBegin xs).code = 0) := fun h => hc h.2
  rw [decN_q hk]
  unfold goQuery
  rw [if_neg hn, raddr_at xs 4 (by omega)]
  simp only
  rw [if_neg (by rw [List.length_drop]; omega)]
theorem decN_q3 {xs : List Int} (h8 : 8 < xs.length) (hk : xs.getD 0 0 = 17) (h12 : 12 ≤ xs.length) (hn : 12 + 4 * numV xs 10 ≤ xs.length) :
    decN xs = ⟨⟨xs.drop (12 + 4 * numV xs 10), false⟩, false, { mBegin xs with ver := 3, grp := ofv ((xs.drop 4).take 4), rob := xs.getD 8 0 % 8, quiet := decide (xs.getD 8 0 / 8 % 2 = 1), every := xs.getD 9 0, srcs := manyV xs 12 (numV xs 10) }⟩ := by
  have hn4 : ¬ ((⟨xs.drop 4, false⟩ : St).left.length = 4 ∧ (mBegin xs).code = 0) := fun h => by rw [left4] at h; omega
  rw [decN_q hk]
  unfold goQuery
  rw [if_neg hn4, raddr_at xs 4 (by omega)]
  simp only
  rw [if_pos (by rw [List.length_drop]; omega)]
  unfold goBeside
  rw [rone_at xs (4 + 4) (by omega)]
  simp only
  rw [rone_at xs (4 + 4 + 1) (by omega)]
  simp only
  rw [rnum_at xs (4 + 4 + 1 + 1) (by omega)]
  simp only
  rw [raddrs_at xs (numV xs (4 + 4 + 1 + 1)) (4 + 4 + 1 + 1 + 2) (by show 12 + 4 * numV xs 10 ≤ _; omega)]
theorem decN_q3s {xs : List Int} (h8 : 8 < xs.length) (hk : xs.getD 0 0 = 17) (h : xs.length < 12 ∨ xs.length < 12 + 4 * numV xs 10) : (decN xs).st.short = true := by
  have hn4 : ¬ ((⟨xs.drop 4, false⟩ : St).left.length = 4 ∧ (mBegin xs).code = 0) := fun h => by rw [left4] at h; omega
  rw [decN_q hk]
  unfold goQuery
  rw [if_neg hn4, raddr_at xs 4 (by omega)]
  simp only
  rw [if_pos (by rw [List.length_drop]; omega)]
  unfold goBeside
  rw [rone_at xs (4 + 4) (by omega)]
  simp only
  cases hb : (raddrs (rnum (rone ⟨xs.drop (4 + 4 + 1), false⟩).2).1 (rnum (rone ⟨xs.drop (4 + 4 + 1), false⟩).2).2).2.short with
  | true => rfl
  | false =>
    exfalso
    have h5 := raddrs_ok _ _ hb
    have h3 := rtake_ok (n := 2) h5.1
    have h2 := rtake_ok (n := 1) h3.1
    have a2 := h2.2.2
    have a3 := h3.2.2
    simp only [List.length_drop] at a2
    unfold rone at a3
    simp only at a3
    have h12 : 12 ≤ xs.length := by omega
    rcases h with h | h
    · omega
    · have a5 := h5.2
      rw [rone_at xs (4 + 4 + 1) (by omega)] at a5
      simp only at a5
      rw [rnum_at xs (4 + 4 + 1 + 1) (by omega)] at a5
      simp only [List.length_drop] at a5
      have a6 : 4 * numV xs 10 ≤ xs.length - 12 := a5
      omega
theorem manyV_len (xs : List Int) : ∀ (n i : Nat), (manyV xs i n).length = n
  | 0, i => rfl
  | n + 1, i => by simp [manyV, manyV_len xs n (i + 4)]
theorem manyV_snoc (xs : List Int) : ∀ (n i : Nat), manyV xs i (n + 1) = manyV xs i n ++ [ofv ((xs.drop (i + 4 * n)).take 4)]
  | 0, i => rfl
  | n + 1, i => by
    rw [manyV, manyV_snoc xs n (i + 4), manyV]
    rw [show i + 4 + 4 * n = i + 4 * (n + 1) by omega]
    rfl
theorem ofv_at {xs : List Int} (h : IsB xs) {i : Nat} (hi : i + 4 ≤ xs.length) : 0 ≤ ofv ((xs.drop i).take 4) ∧ ofv ((xs.drop i).take 4) ≤ 4294967295 :=
  ofv4_bd (isB_take (isB_drop h i) 4) (by rw [List.length_take, List.length_drop]; omega)
theorem manyV_A {xs : List Int} (h : IsB xs) : ∀ (n i : Nat), i + 4 * n ≤ xs.length → IsA (manyV xs i n)
  | 0, i, _ => fun k hk => absurd hk (by simp [manyV])
  | n + 1, i, hi => isA_cons.2 ⟨ofv_at h (by omega), manyV_A h n (i + 4) (by omega)⟩
theorem numV_bd {xs : List Int} (h : IsB xs) (i : Nat) : numV xs i ≤ 65535 ∧ (numV xs i : Int) = xs.getD i 0 * 256 + xs.getD (i + 1) 0 := by
  have h0 := getD_bd h i
  have h1 := getD_bd h (i + 1)
  unfold numV
  omega
end Go.Proofs.Ytmcnanoamgkljaa
/- The document's own answers (stolonref05): a number at a place, an address, many of them. -/
namespace Go.Proofs.Ytmcnanoamgkljaa
set_option linter.unusedVariables false
open Go.RowKit

/-- The bytes of a slice in one block. -/
def At (w : World) (b0 off n : Nat) (xs : List Int) : Prop := xs.length = n ∧ IsB xs ∧ ∀ j, j < n → w.cell? ⟨b0, off + j, none⟩ = some (.int .u8 (xs.getD j 0))
theorem At.below {w w' : World} {b0 off n : Nat} {xs : List Int} (h : At w b0 off n xs) (hb : Below w.heap.size w w') : At w' b0 off n xs :=
  ⟨h.1, h.2.1, fun j hj => (hb.cell (p := ⟨b0, off + j, none⟩) (cell_lt (h.2.2 j hj))).trans (h.2.2 j hj)⟩
theorem At.len {w : World} {b0 off n : Nat} {xs : List Int} (h : At w b0 off n xs) : xs.length = n := h.1
theorem At.bytes {w : World} {b0 off n : Nat} {xs : List Int} (h : At w b0 off n xs) : IsB xs := h.2.1
theorem At.bs {w : World} {b0 off n : Nat} {xs : List Int} (h : At w b0 off n xs) (i m : Nat) (hi : i + m ≤ n) : Bs w (some ⟨b0, off + i, none⟩) ((xs.drop i).take m) := by
  refine ⟨.inr ⟨b0, off + i, rfl, fun k hk => ?_⟩, isB_take (isB_drop h.2.1 i) m⟩
  have hk' : k < m := by rw [List.length_take] at hk; omega
  rw [getD_dt xs i m k hk', Nat.add_assoc]
  exact h.2.2 (i + k) (by omega)

theorem own_bel {w w' : World} {B n size : Nat} {e : TypeId} {v : Value} {xs : List Value} (h : w.ownsRow B e size v n xs) (hb : Below w.heap.size w w') : w'.ownsRow B e size v n xs := by
  refine ⟨h.1, ?_⟩
  rcases h.2 with e | ⟨g, c, cur, e, h1, h2, h3⟩
  · exact .inl e
  · exact .inr ⟨g, c, cur, e, h1, (hb.block g (Array.getElem?_eq_some_iff.1 h2).1).trans h2, h3⟩
set_option maxHeartbeats 1000000 in
theorem rTwo (b0 off n c i : Nat) (xs : List Int) (w : World) (h : At w b0 off n xs) (hn : n ≤ 1000000) (hi : i + 2 ≤ n) :
    Calls Try.prog 43 #[.slice (some ⟨b0, off, none⟩) n c, .int .i64 i] w fun e w' => e = .returned (.int .i64 (numV xs i : Nat)) ∧ Below w.heap.size w w' := by
  have hx := getD_bd h.bytes i
  have hy := getD_bd h.bytes (i + 1)
  have hv := (numV_bd h.bytes i).2
  have c0 : ∀ q, (w.drewN q).cell? ⟨b0, off + i, none⟩ = some (.int .u8 (xs.getD i 0)) := fun q => h.2.2 i (by omega)
  have c1 : ∀ q, (w.drewN q).cell? ⟨b0, off + (i + 1), none⟩ = some (.int .u8 (xs.getD (i + 1) 0)) := fun q => h.2.2 (i + 1) (by omega)
  obtain ⟨x, ex⟩ : ∃ x, x = xs.getD i 0 := ⟨_, rfl⟩
  obtain ⟨y, ey⟩ : ∃ y, y = xs.getD (i + 1) 0 := ⟨_, rfl⟩
  rw [← ex] at hx hv c0
  rw [← ey] at hy hv c1
  obtain ⟨x0, x1⟩ := hx
  obtain ⟨y0, y1⟩ := hy
  have HV := Lib.hid hv
  have i0 : (0 : Int) ≤ (i : Int) := by omega
  have i1 : (i : Int) < (n : Int) := by omega
  have i2 : (0 : Int) ≤ (i : Int) + 1 := by omega
  have i3 : (i : Int) + 1 < (n : Int) := by omega
  have i4 : ((i : Int) + 1).toNat = i + 1 := by omega
  clear h hv ex ey
  go_enter Try.func43, Try.ntmps43
  go_wp2
  go_quiet (fail)
  go_wp2
  go_ret
  exact ⟨by rw [HV.out]; rfl, bdrawn (Below.refl _ _) _⟩

set_option maxHeartbeats 1000000 in
theorem rAt (b0 off n c i : Nat) (xs : List Int) (w : World) (h : At w b0 off n xs) (hn : n ≤ 1000000) (hc : n ≤ c) (hi : i + 4 ≤ n) :
    Calls Try.prog 41 #[.slice (some ⟨b0, off, none⟩) n c, .int .i64 i] w fun e w' => e = .returned (.int .u32 (ofv ((xs.drop i).take 4))) ∧ Below w.heap.size w w' := by
  have HL : Hid (((xs.drop i).take 4).length = 4) := Lib.hid (by rw [List.length_take, List.length_drop, h.len]; omega)
  have HB := Lib.hid (h.bs i 4 hi)
  have i0 : (0 : Int) ≤ (i : Int) := by omega
  have i1 : (i : Int) ≤ (c : Int) := by omega
  have i2 : (i : Int) + 4 ≤ (c : Int) := by omega
  have i3 : (i : Int) ≤ (i : Int) + 4 := by omega
  have i4 : ((i : Int) + 4).toNat = i + 4 := by omega
  have i5 : ¬ c = i := by omega
  have i6 : i ≤ c := by omega
  have i7 : i + 4 ≤ c := by omega
  have i8 : i + 4 - i = 4 := by omega
  clear h
  go_enter Try.func41, Try.ntmps41
  go_wp2_with (go_at_call 59; refine (rOf (some ⟨b0, off + i, none⟩) 4 (c - i) ((xs.drop i).take 4) _ HL.out (by omega) HB.out).mono ?_; rintro e w1 ⟨rfl, hb⟩; have HB1 := Lib.hid hb; clear hb)
  go_ret
  exact ⟨rfl, HB1.out⟩

theorem rMany_no (b0 off n c i m : Nat) (w : World) (hn : n ≤ 1000000) (hi : i ≤ 1000000) (hm : m ≤ 65535) (h : n < i + 4 * m) :
    Calls Try.prog 44 #[.slice (some ⟨b0, off, none⟩) n c, .int .i64 i, .int .i64 m] w fun e w' => e = .returned (.tuple #[.slice none 0 0, .bool false]) ∧ Below w.heap.size w w' := by
  have h1 : (i : Int) + 4 * (m : Int) > (n : Int) := by omega
  go_enter Try.func44, Try.ntmps44
  go_wp2
  go_ret2
  exact ⟨rfl, Below.refl _ _⟩

set_option maxHeartbeats 2000000 in
theorem rMany (b0 off n c i m : Nat) (xs : List Int) (w : World) (h : At w b0 off n xs) (hn : n ≤ 1000000) (hc : n ≤ c) (hi : i ≤ 1000000) (hm : m ≤ 65535) (hl : i + 4 * m ≤ n) :
    Calls Try.prog 44 #[.slice (some ⟨b0, off, none⟩) n c, .int .i64 i, .int .i64 m] w fun e w' => ∃ a cap, e = .returned (.tuple #[.slice a m cap, .bool true]) ∧ AsO w' w.heap.size a (manyV xs i m) ∧ Below w.heap.size w w' := by
  have h1 : ¬ ((i : Int) + 4 * (m : Int) > (n : Int)) := by omega
  have H := Lib.hid h
  obtain ⟨i0, hi0, hz0, hz1, hz2⟩ := info_parts infoA
  have HI := Lib.hid hi0
  have HZ := Lib.hid hz0
  have HZ1 := Lib.hid hz1
  have HZ2 := Lib.hid hz2
  clear h hi0 hz0 hz1 hz2
  go_enter Try.func44, Try.ntmps44
  go_wp2
  go_loopw [8, 9] (fun b kv wr => ∃ (k : Nat) (a' : Option Addr) (cap' : Nat), k ≤ m ∧ kv = .int .i64 k ∧ b = .slice a' k cap' ∧ wr.ownsRow w.heap.size 23 1 (.slice a' k cap') k (va (manyV xs i k)) ∧ Below w.heap.size w wr) (fun _ kv _ => m - (intOf kv).toNat)
  case atStart => exact ⟨0, none, 0, by omega, rfl, rfl, own_nil _ _ _ _, Below.refl _ _⟩
  case round =>
    obtain ⟨k, a1, cap1, hk, rfl, rfl, hown, hbel⟩ := hrel
    have HO := Lib.hid hown
    have HB := Lib.hid hbel
    clear hown hbel
    by_cases hlt : k < m
    · have e1 : Hid ((i : Int) + 4 * (k : Int) = ((i + 4 * k : Nat) : Int)) := Lib.hid (by omega)
      go_wp2_with (first
        | (go_at_call 41; rw [e1.out]; refine (rAt b0 off n c (i + 4 * k) xs _ (H.out.below HB.out) hn hc (by omega)).mono ?_; rintro e w1 ⟨rfl, hb⟩; have HB1 := Lib.hid (HB.out.trans (hb.mono HB.out.size)); have HO1 : Hid (w1.ownsRow w.heap.size 23 1 (.slice a1 k cap1) k (va (manyV xs i k))) := Lib.hid (own_bel HO.out hb); clear hb)
        | ((with_reducible refine wpList_app_one rfl 24 23 i0 (.int .u32 0) 1 4 Try.underlying24 HI.out HZ.out HZ1.out HZ2.out rfl (by decide) (by decide) (.tmp 22) (.tmp 29) rfl w.heap.size a1 k cap1 (va (manyV xs i k)) rfl (HO1.out.alloc _) ⟨w1.heap.size, 0, none⟩ 1 [.int .u32 (ofv ((xs.drop (i + 4 * k)).take 4))] rfl rfl (news_new w1 _ _) (one32 _) (by omega) (Nat.le_trans HB1.out.size (bel1 _ _).size) ?_); intro a2 cap2 w2 how2 hb2 hst2))
      go_roundw
      case rel => exact ⟨k + 1, a2, cap2, by omega, by go_num, rfl, by rw [manyV_snoc, va_snoc]; exact how2.out, (HB1.out.alloc HB1.out.size _).trans hb2.out⟩
      case measure => simp [intOf]; omega
    · obtain rfl : k = m := by omega
      go_wp2
      go_ret2
      exact ⟨a1, cap1, rfl, AsO.of (manyV_len xs k i) HO.out, HB.out⟩
end Go.Proofs.Ytmcnanoamgkljaa
/- The document's own answer for a report's records (stolonref05.records). -/
namespace Go.Proofs.Ytmcnanoamgkljaa
set_option linter.unusedVariables false
open Go.RowKit

theorem wrapI (x : Int) (h0 : -9223372036854775808 ≤ x) (h1 : x ≤ 9223372036854775807) : IntKind.i64.wrap x = x := by
  simp [IntKind.wrap, IntKind.bits, IntKind.signed]; omega
set_option maxHeartbeats 4000000 in
theorem rRecords (b0 off n c : Nat) (xs : List Int) (w : World) (h : At w b0 off n xs) (hn : n ≤ 1000000) (hc : n ≤ c) (h8 : 8 ≤ n) :
    Calls Try.prog 42 #[.slice (some ⟨b0, off, none⟩) n c] w fun e w' =>
      (recsV xs (numV xs 6) 8 = none ∧ e = .returned (.tuple #[.slice none 0 0, .int .i64 0, .bool false]) ∧ Below w.heap.size w w') ∨
      (∃ l en a cap cs, recsV xs (numV xs 6) 8 = some (l, en) ∧ en ≤ n ∧ e = .returned (.tuple #[.slice a l.length cap, .int .i64 (en : Nat), .bool true]) ∧ RowR w' w.heap.size a l.length cap l cs ∧ Below w.heap.size w w') := by
  have HBY := Lib.hid h.bytes
  have HLEN := Lib.hid h.len
  have H := Lib.hid h
  obtain ⟨N, hN⟩ : ∃ N, N = numV xs 6 := ⟨_, rfl⟩
  have HN65 : Hid (N ≤ 65535) := Lib.hid (by rw [hN]; exact (numV_bd h.bytes 6).1)
  rw [← hN]
  have HNN := Lib.hid hN
  obtain ⟨i0, hi0, hz0, hz1, hz2⟩ := info_parts infoR
  have HI := Lib.hid hi0
  have HZ := Lib.hid hz0
  have HZ1 := Lib.hid hz1
  have HZ2 := Lib.hid hz2
  clear h hN hi0 hz0 hz1 hz2
  go_enter Try.func42, Try.ntmps42
  go_wp2
  go_loopw [5, 6, 7] (fun b iv kv wr => ∃ (k i : Nat) (rs : List Rec) (a' : Option Addr) (cap' : Nat) (cs : List Value), k ≤ N ∧ i ≤ n ∧ kv = .int .i64 k ∧ iv = .int .i64 i ∧ b = .slice a' k cap' ∧ RowR wr w.heap.size a' k cap' rs cs ∧ Below w.heap.size w wr ∧
    recsV xs N 8 = (recsV xs (N - k) i).map (fun r => (rs ++ r.1, r.2))) (fun _ _ kv _ => N - (intOf kv).toNat)
  case atStart => exact ⟨0, 8, [], none, 0, [], by omega, h8, rfl, rfl, rfl, RowR.nil _ _, Below.refl _ _, by simp⟩
  case round =>
    obtain ⟨k, i, rs, a1, cap1, cs1, hk, hin, rfl, rfl, rfl, hrow, hbel, heq⟩ := hrel
    have HRO := Lib.hid hrow
    have HB := Lib.hid hbel
    have HEQ := Lib.hid heq
    clear hrow hbel heq
    have n65 := HN65.out
    by_cases hlt : k < N
    · obtain ⟨j, hj⟩ : ∃ j, N - k = j + 1 := ⟨N - k - 1, by omega⟩
      have HJ := Lib.hid hj
      clear hj
      by_cases hi8 : (i : Int) + 8 > (n : Int)
      · have E : Hid (recsV xs N 8 = none) := Lib.hid (by rw [HEQ.out, HJ.out, recsV, if_pos (by have := HLEN.out; omega)]; rfl)
        go_wp2_with (go_at_call 43; refine (rTwo b0 off n c 6 xs _ (H.out.below HB.out) hn (by omega)).mono ?_; rintro e w1 ⟨rfl, hb⟩; rw [← HNN.out]; have HB1 := Lib.hid (HB.out.trans (hb.mono HB.out.size)); clear hb)
        go_ret3
        exact .inl ⟨E.out, rfl, HB1.out⟩
      · have e2 : Hid ((i : Int) + 2 = ((i + 2 : Nat) : Int)) := Lib.hid (by omega)
        have e8 : Hid ((i : Int) + 8 = ((i + 8 : Nat) : Int)) := Lib.hid (by omega)
        have e4 : Hid (IntKind.i64.wrap ((i : Int) + 4) = ((i + 4 : Nat) : Int)) := Lib.hid (by rw [wrapI _ (by omega) (by omega)]; omega)
        obtain ⟨m, hm⟩ : ∃ m, m = numV xs (i + 2) := ⟨_, rfl⟩
        have HM := Lib.hid hm
        have m65 : m ≤ 65535 := by rw [hm]; exact (numV_bd HBY.out (i + 2)).1
        clear hm
        by_cases hmn : n < i + 8 + 4 * m
        · have E : Hid (recsV xs N 8 = none) := Lib.hid (by rw [HEQ.out, HJ.out, recsV, if_neg (by have := HLEN.out; omega), if_pos (by have := HLEN.out; rw [← HM.out]; omega)]; rfl)
          go_wp2_with fail
          refine (rTwo b0 off n c 6 xs _ (H.out.below HB.out) hn (by omega)).mono ?_
          rintro e w1 ⟨rfl, hb⟩
          rw [← HNN.out]
          have HB1 := Lib.hid (HB.out.trans (hb.mono HB.out.size))
          clear hb
          go_wp2_with fail
          rw [e2.out]
          refine (rTwo b0 off n c (i + 2) xs _ (H.out.below HB1.out) hn (by omega)).mono ?_
          rintro e w2 ⟨rfl, hb⟩
          rw [← HM.out]
          have HB2 := Lib.hid (HB1.out.trans (hb.mono HB1.out.size))
          clear hb
          go_wp2_with fail
          rw [e8.out]
          refine (rMany_no b0 off n c (i + 8) m _ hn (by omega) m65 (by omega)).mono ?_
          rintro e w3 ⟨rfl, hb⟩
          have HB3 := Lib.hid (HB2.out.trans (hb.mono HB2.out.size))
          clear hb
          go_wp2
          go_ret3
          exact .inl ⟨E.out, rfl, HB3.out⟩
        · have E : Hid (recsV xs N 8 = (recsV xs (N - (k + 1)) (i + 8 + 4 * m)).map (fun r => (rs ++ [⟨xs.getD i 0, ofv ((xs.drop (i + 4)).take 4), manyV xs (i + 8) m⟩] ++ r.1, r.2))) := Lib.hid (by
            rw [HEQ.out, HJ.out, recsV, if_neg (by have := HLEN.out; omega), if_neg (by have := HLEN.out; rw [← HM.out]; omega), ← HM.out, show N - (k + 1) = j by have := HJ.out; omega]
            cases recsV xs j (i + 8 + 4 * m) <;> simp)
          go_wp2_with fail
          refine (rTwo b0 off n c 6 xs _ (H.out.below HB.out) hn (by omega)).mono ?_
          rintro e w1 ⟨rfl, hb⟩
          rw [← HNN.out]
          have HB1 := Lib.hid (HB.out.trans (hb.mono HB.out.size))
          have RO1 := Lib.hid (HRO.out.keep fun q _ hq => hb.block q hq)
          clear hb
          go_wp2_with fail
          rw [e2.out]
          refine (rTwo b0 off n c (i + 2) xs _ (H.out.below HB1.out) hn (by omega)).mono ?_
          rintro e w2 ⟨rfl, hb⟩
          rw [← HM.out]
          have HB2 := Lib.hid (HB1.out.trans (hb.mono HB1.out.size))
          have RO2 := Lib.hid (RO1.out.keep fun q _ hq => hb.block q hq)
          clear hb
          go_wp2_with fail
          rw [e8.out]
          refine (rMany b0 off n c (i + 8) m xs _ (H.out.below HB2.out) hn hc (by omega) m65 (by omega)).mono ?_
          rintro e w3 ⟨a3, cap3, rfl, has, hb⟩
          have HB3 := Lib.hid (HB2.out.trans (hb.mono HB2.out.size))
          have RO3 := Lib.hid (RO2.out.keep fun q _ hq => hb.block q hq)
          have AS3 := Lib.hid (has.mono (C := w.heap.size) HB2.out.size)
          clear hb has
          obtain ⟨x, hx⟩ : ∃ x, x = xs.getD i 0 := ⟨_, rfl⟩
          have HX := Lib.hid hx
          have d3 : w3.cell? ⟨b0, off + i, none⟩ = some (.int .u8 x) := by rw [hx]; exact (H.out.below HB3.out).2.2 i (by omega)
          have l3 := cell_lt d3
          simp only at l3
          clear hx
          have q0 : (0 : Int) ≤ (i : Int) := by omega
          have q1 : (i : Int) < (n : Int) := by omega
          obtain ⟨gv, hg⟩ : ∃ gv, gv = ofv ((xs.drop (i + 4)).take 4) := ⟨_, rfl⟩
          have HG := Lib.hid hg
          clear hg
          have KLT : Hid (k < N) := Lib.hid hlt
          have IMN : Hid (i + 8 + 4 * m ≤ n) := Lib.hid (by omega)
          go_wp2_with fail
          go_region_held3 (fun w' => w'.cell? ⟨b0, off + i, none⟩ = some (.int .u8 x)) (first | go_keep | assumption)
            (first
              | (go_at_call 41; rw [e4.out]; refine (rAt b0 off n c (i + 4) xs _ (H.out.below HB3.out.drew) hn hc (by omega)).mono ?_; rintro e w4 ⟨rfl, hb⟩; rw [← HG.out]; have hb4 : Below w3.heap.size w3 w4 := ⟨hb.os, hb.tape, hb.output, hb.size, hb.block⟩; have HB4 := Lib.hid (HB3.out.trans (hb4.mono HB3.out.size)); have RO4 := Lib.hid (RO3.out.keep fun q _ hq => hb4.block q hq); have AS4 := Lib.hid (AS3.out.below hb4); have d4 : w4.cell? ⟨b0, off + i, none⟩ = some (.int .u8 x) := (hb4.cell (p := ⟨b0, off + i, none⟩) l3).trans d3; clear hb hb4)
              | ((refine step_app_one rfl 25 44 i0 (.agg #[.int .u8 0, .int .u32 0, .slice none 0 0]) 3 32 Try.underlying25 HI.out HZ.out HZ1.out HZ2.out rfl (by decide) (by decide) (.tmp 36) (.tmp 47) (by rfl) w.heap.size a1 k cap1 cs1 (by rfl) (RO4.out.own.alloc _) ⟨w4.heap.size, 0, none⟩ 1 [.int .u8 x, .int .u32 gv, .slice a3 m cap3] (by rfl) (by rfl) (news_new w4 _ _) (one3 _ _ _ _ _) (by have := HN65.out; omega) (Nat.le_trans HB4.out.size (bel1 _ _).size) ?_); intro a5 cap5 w5 how5 hb5 hst5; have hb5' : Below w.heap.size w w5 := (HB4.out.alloc HB4.out.size _).trans hb5.out; have lb0 : b0 < w.heap.size := (by have := cell_lt (H.out.2.2 0 (by omega)); exact this); have d5 : w5.cell? ⟨b0, off + i, none⟩ = some (.int .u8 x) := (hb5'.cell (p := ⟨b0, off + i, none⟩) lb0).trans ((HB3.out.cell (p := ⟨b0, off + i, none⟩) lb0).symm.trans d3); have HB5 := Lib.hid hb5'; clear hb5')
              | fail)
          all_goals
            have e9 : Hid ((i : Int) + 8 + 4 * (m : Int) = ((i + 8 + 4 * m : Nat) : Int)) := Lib.hid (by omega)
            go_wp2
            go_roundw
            case rel =>
              have hrow : RowR w5 w.heap.size a5 (k + 1) cap5 (rs ++ [⟨x, gv, manyV xs (i + 8) m⟩]) (cs1 ++ [.int .u8 x, .int .u32 gv, .slice a3 (manyV xs (i + 8) m).length cap3]) :=
                RowR.app (r := ⟨x, gv, manyV xs (i + 8) m⟩) (w := w4.alloc (.cells #[.int .u8 x, .int .u32 gv, .slice a3 m cap3] 44)) (RO4.out.keep fun q _ hq => Below.heap_alloc _ _ _ hq) (AS4.out.below (bel1 _ _)) (by rw [manyV_len]; exact how5.out) hst5.out
              exact ⟨k + 1, i + 8 + 4 * m, rs ++ [⟨x, gv, manyV xs (i + 8) m⟩], a5, cap5, _, by have := KLT.out; omega, IMN.out, by go_num, by first | exact congrArg (Value.int .i64) e9.out | go_num, rfl, hrow, HB5.out, by rw [E.out, HX.out, HG.out]⟩
            case measure => have := KLT.out; simp [intOf]; omega
    · obtain rfl : k = N := by omega
      go_wp2_with (go_at_call 43; refine (rTwo b0 off n c 6 xs _ (H.out.below HB.out) hn (by omega)).mono ?_; rintro e w1 ⟨rfl, hb⟩; rw [← HNN.out]; have HB1 := Lib.hid (HB.out.trans (hb.mono HB.out.size)); have RO1 := Lib.hid (HRO.out.keep fun q _ hq => hb.block q hq); clear hb)
      go_ret3
      have hl := HRO.out.2.1
      refine .inr ⟨rs, i, a1, cap1, cs1, by rw [HEQ.out, Nat.sub_self]; simp [recsV], hin, ?_, ?_, HB1.out⟩
      · rw [hl]; rfl
      · rw [hl]; exact RO1.out
end Go.Proofs.Ytmcnanoamgkljaa
/- The message of bytes, the document's own answer (stolonref05.Decode): too short, not whole. -/
namespace Go.Proofs.Ytmcnanoamgkljaa
set_option linter.unusedVariables false
open Go.RowKit

theorem rDec_A (a : Option Addr) (n c : Nat) (xs : List Int) (w : World) (hx : xs.length = n) (h8 : n < 8) :
    Calls Try.prog 21 #[.slice a n c] w fun e w' => ∃ sa sc ra rc, e = .returned (.tuple #[.agg #[.int .u8 (decM xs).kind, .int .i64 (decM xs).ver, .int .u8 (decM xs).code, .int .u32 (decM xs).grp, .bool (decM xs).quiet, .int .u8 (decM xs).rob, .int .u8 (decM xs).every, .slice sa (decM xs).srcs.length sc, .slice ra (decM xs).recs.length rc], .int .i64 (decE xs)]) ∧ Ms w' (decM xs) sa ra ∧ Below w.heap.size w w' := by
  have E : decE xs = 3 := by unfold decE; rw [if_pos (by omega)]
  have M : decM xs = m0 := by unfold decM; rw [E]; rfl
  rw [E, M]
  clear E M hx
  have HX := Lib.hid (MB.new w (.int .u8 0) (.int .i64 0) (.int .u8 0) (.int .u32 0) (.bool false) (.int .u8 0) (.int .u8 0) (.slice none 0 0) (.slice none 0 0))
  have B := Lib.hid (bel1 w (.cells #[.int .u8 0, .int .i64 0, .int .u8 0, .int .u32 0, .bool false, .int .u8 0, .int .u8 0, .slice none 0 0, .slice none 0 0] 27))
  go_enter Try.func21, Try.ntmps21
  go_wp2
  refine ret_cell2 rfl rfl rfl (HX.out.load) ?_
  exact ⟨none, 0, none, 0, rfl, ms0 _, B.out⟩
set_option maxHeartbeats 1000000 in
theorem rDec_B (a : Option Addr) (n c : Nat) (xs : List Int) (w : World) (hx : xs.length = n) (hn : n ≤ 1000000) (h8 : ¬ n < 8) (hb : Bs w a xs) (hs : ofs xs ≠ 0) :
    Calls Try.prog 21 #[.slice a n c] w fun e w' => ∃ sa sc ra rc, e = .returned (.tuple #[.agg #[.int .u8 (decM xs).kind, .int .i64 (decM xs).ver, .int .u8 (decM xs).code, .int .u32 (decM xs).grp, .bool (decM xs).quiet, .int .u8 (decM xs).rob, .int .u8 (decM xs).every, .slice sa (decM xs).srcs.length sc, .slice ra (decM xs).recs.length rc], .int .i64 (decE xs)]) ∧ Ms w' (decM xs) sa ra ∧ Below w.heap.size w w' := by
  have E : decE xs = 4 := by unfold decE; rw [if_neg (by omega), if_pos hs]
  have M : decM xs = m0 := by unfold decM; rw [E]; rfl
  rw [E, M]
  obtain ⟨z, hz⟩ : ∃ z, z = ofs xs := ⟨_, rfl⟩
  have D : ((z : Int) != 0) = true := by rw [hz]; exact bne_iff_ne.2 hs
  have HZ := Lib.hid hz
  have HXS := Lib.hid hx
  have HB := Lib.hid hb
  clear E M hx hs hb hz
  have HX := Lib.hid (MB.new w (.int .u8 0) (.int .i64 0) (.int .u8 0) (.int .u32 0) (.bool false) (.int .u8 0) (.int .u8 0) (.slice none 0 0) (.slice none 0 0))
  have B := Lib.hid (bel1 w (.cells #[.int .u8 0, .int .i64 0, .int .u8 0, .int .u32 0, .bool false, .int .u8 0, .int .u8 0, .slice none 0 0, .slice none 0 0] 27))
  go_enter Try.func21, Try.ntmps21
  go_wp2_with (go_at_call 40; refine (rOf2 a n c xs _ HXS.out hn (bs_below HB.out B.out)).mono ?_; rintro e w1 ⟨rfl, rfl⟩; rw [← HZ.out])
  refine ret_cell2 rfl rfl rfl (HX.out.load) ?_
  exact ⟨none, 0, none, 0, rfl, ms0 _, B.out⟩
theorem rAt4 (b0 off n c : Nat) (xs : List Int) (w : World) (h : At w b0 off n xs) (hn : n ≤ 1000000) (hc : n ≤ c) (hi : 8 ≤ n) :
    Calls Try.prog 41 #[.slice (some ⟨b0, off, none⟩) n c, .int .i64 4] w fun e w' => e = .returned (.int .u32 (ofv ((xs.drop 4).take 4))) ∧ Below w.heap.size w w' := rAt b0 off n c 4 xs w h hn hc (by omega)
theorem rTwo4 (b0 off n c : Nat) (xs : List Int) (w : World) (h : At w b0 off n xs) (hn : n ≤ 1000000) (hi : 8 ≤ n) :
    Calls Try.prog 43 #[.slice (some ⟨b0, off, none⟩) n c, .int .i64 4] w fun e w' => e = .returned (.int .i64 (numV xs 4 : Nat)) ∧ Below w.heap.size w w' := rTwo b0 off n c 4 xs w h hn (by omega)
theorem rTwo10 (b0 off n c : Nat) (xs : List Int) (w : World) (h : At w b0 off n xs) (hn : n ≤ 1000000) (hi : 12 ≤ n) :
    Calls Try.prog 43 #[.slice (some ⟨b0, off, none⟩) n c, .int .i64 10] w fun e w' => e = .returned (.int .i64 (numV xs 10 : Nat)) ∧ Below w.heap.size w w' := rTwo b0 off n c 10 xs w h hn (by omega)
theorem rMany12_no (b0 off n c m : Nat) (w : World) (hn : n ≤ 1000000) (hm : m ≤ 65535) (h : n < 12 + 4 * m) :
    Calls Try.prog 44 #[.slice (some ⟨b0, off, none⟩) n c, .int .i64 12, .int .i64 m] w fun e w' => e = .returned (.tuple #[.slice none 0 0, .bool false]) ∧ Below w.heap.size w w' := rMany_no b0 off n c 12 m w hn (by omega) hm h
theorem rMany12 (b0 off n c m : Nat) (xs : List Int) (w : World) (h : At w b0 off n xs) (hn : n ≤ 1000000) (hc : n ≤ c) (hm : m ≤ 65535) (hl : 12 + 4 * m ≤ n) :
    Calls Try.prog 44 #[.slice (some ⟨b0, off, none⟩) n c, .int .i64 12, .int .i64 m] w fun e w' => ∃ a cap, e = .returned (.tuple #[.slice a m cap, .bool true]) ∧ AsO w' w.heap.size a (manyV xs 12 m) ∧ Below w.heap.size w w' := rMany b0 off n c 12 m xs w h hn hc (by omega) hm hl
/-- What the ending says. -/
theorem end_more {xs : List Int} {e : En} {n E : Nat} (hx : xs.length = n) (hE : decE xs = endE e) (hs : e.st = ⟨xs.drop E, false⟩) (h : E < n) : decE xs = 2 ∧ decM xs = m0 := by
  have h2 : decE xs = 2 := by
    rw [hE]; unfold endE
    rw [hs, if_neg (by simp), if_pos (.inl (by simp only [List.length_drop]; omega))]
  exact ⟨h2, by unfold decM; rw [h2]; rfl⟩
theorem end_not {xs : List Int} {e : En} {n : Nat} (hE : decE xs = endE e) (hs : e.st.short = false) (hr : right e.m = false) : decE xs = 2 ∧ decM xs = m0 := by
  have h2 : decE xs = 2 := by
    rw [hE]; unfold endE
    rw [hs, if_neg (by simp), if_pos (.inr (.inr hr))]
  exact ⟨h2, by unfold decM; rw [h2]; rfl⟩
theorem end_ok {xs : List Int} {e : En} {n : Nat} (hx : xs.length = n) (hE : decE xs = endE e) (hd : decN xs = e) (hs : e.st = ⟨xs.drop n, false⟩) (hw : e.wrong = false) (hr : right e.m = true) : decE xs = 0 ∧ decM xs = e.m := by
  have h0 : decE xs = 0 := by
    rw [hE]; unfold endE
    rw [hs, if_neg (by simp), if_neg]
    rw [hw, hr]
    simp [List.length_drop, hx]
  exact ⟨h0, by unfold decM; rw [if_pos h0, hd]⟩
theorem end_short {xs : List Int} (hE : decE xs = endE (decN xs)) (hs : (decN xs).st.short = true) : decE xs = 3 ∧ decM xs = m0 := by
  have h3 : decE xs = 3 := by rw [hE]; unfold endE; rw [if_pos hs]
  exact ⟨h3, by unfold decM; rw [h3]; rfl⟩
end Go.Proofs.Ytmcnanoamgkljaa
