/- Places: what is known of groups on ports (plain), and in memory. -/
import Derived.Test.YtiabbkjmgaemaaaGreatDB0
import Derived.Test.YtiabbkjmgaemaaaGreatDB1
import Derived.Test.YtiabbkjmgaemaaaGreatDB2
import Derived.Test.YtiabbkjmgaemaaaGreatDB3
import Derived.Test.YtiabbkjmgaemaaaGreatDB4
import Derived.Test.YtiabbkjmgaemaaaGreatDB5
import Derived.Test.YtiabbkjmgaemaaaGreatDB6
import Derived.Test.YtiabbkjmgaemaaaGreatDB7
import Derived.Test.YtiabbkjmgaemaaaGreatDB8
import Derived.Test.YtiabbkjmgaemaaaGreatDB9
import Derived.Test.YtiabbkjmgaemaaaGreatDB10
import Derived.Test.YtiabbkjmgaemaaaGreatDB11
import Derived.Test.YtiabbkjmgaemaaaGreatDB12
import Derived.Test.YtiabbkjmgaemaaaGreatDB13
import Derived.Lib.AppendZeros
import Derived.BigQuiet
namespace Go.Proofs.YtiabbkjmgaemaaaGreat
set_option linter.unusedVariables false
open Go.RowKit

def isI (x : Int) : Prop := -9223372036854775808 ≤ x ∧ x ≤ 9223372036854775807
/-- A place. -/
structure Plc where
  port : Int
  v1 : Int
  v2 : Int
  g : Int
  ex : Bool
  left : Int
  s : List Hd
  a : Option Addr
  c : Nat
def Plc.sl (p : Plc) : Value := .slice p.a p.s.length p.c
def Plc.v (p : Plc) : Value := .agg #[.int .i64 p.port, .int .i64 p.v1, .int .i64 p.v2, .int .u32 p.g, .bool p.ex, .int .i64 p.left, p.sl]
/-- What it is, wherever it lies. -/
def Plc.nm (p : Plc) : Plc := ⟨p.port, p.v1, p.v2, p.g, p.ex, p.left, p.s, none, 0⟩
/-- Its port and its group, in one number. -/
def Plc.k (p : Plc) : Int := p.port * 4294967296 + p.g
theorem nm_eq9 {p q : Plc} : p.nm = q.nm ↔ (p.port = q.port ∧ p.v1 = q.v1 ∧ p.v2 = q.v2) ∧ p.g = q.g ∧ p.ex = q.ex ∧ p.left = q.left ∧ p.s = q.s := by
  obtain ⟨a1, a2, a3, a4, a5, a6, a7, a8, a9⟩ := p
  obtain ⟨b1, b2, b3, b4, b5, b6, b7, b8, b9⟩ := q
  simp only [Plc.nm, Plc.mk.injEq]
  constructor
  · rintro ⟨h1, h2, h3, h4, h5, h6, h7, -⟩; exact ⟨⟨h1, h2, h3⟩, h4, h5, h6, h7⟩
  · rintro ⟨⟨h1, h2, h3⟩, h4, h5, h6, h7⟩; exact ⟨h1, h2, h3, h4, h5, h6, h7, trivial, trivial⟩
theorem nm_k {p : Plc} : p.nm.k = p.k := rfl
theorem nm_nm (p : Plc) : p.nm.nm = p.nm := rfl
/-- Numbers within their kinds. -/
def PB (p : Plc) : Prop := (isI p.port ∧ isI p.v1 ∧ isI p.v2) ∧ (0 ≤ p.g ∧ p.g ≤ 4294967295) ∧ isI p.left
def POk (w : World) (p : Plc) : Prop := Hs w p.a p.s ∧ PB p
theorem POk.below {w w' : World} {p : Plc} (h : POk w p) (hb : Below w.heap.size w w') : POk w' p := ⟨h.1.below hb, h.2⟩
/-- Its sources lie in a row of sources. -/
def PT (w : World) (p : Plc) : Prop := HT w p.a p.s ∧ PB p
theorem PT.below {w w' : World} {p : Plc} (h : PT w p) (hb : Below w.heap.size w w') : PT w' p := ⟨h.1.below hb, h.2⟩
theorem PT.ok {w : World} {p : Plc} (h : PT w p) : POk w p := ⟨h.1.1, h.2⟩
/-- A place in seven cells. -/
def PCs (w : World) (b o : Nat) (p : Plc) : Prop := w.cell? ⟨b, o, none⟩ = some (.int .i64 p.port) ∧ w.cell? ⟨b, o + 1, none⟩ = some (.int .i64 p.v1) ∧ w.cell? ⟨b, o + 2, none⟩ = some (.int .i64 p.v2) ∧ w.cell? ⟨b, o + 3, none⟩ = some (.int .u32 p.g) ∧
  w.cell? ⟨b, o + 4, none⟩ = some (.bool p.ex) ∧ w.cell? ⟨b, o + 5, none⟩ = some (.int .i64 p.left) ∧ w.cell? ⟨b, o + 6, none⟩ = some p.sl
theorem PCs.below {w w' : World} {b o : Nat} {p : Plc} (h : PCs w b o p) (hb : Below w.heap.size w w') : PCs w' b o p := by
  obtain ⟨c0, c1, c2, c3, c4, c5, c6⟩ := h
  exact ⟨(hb.cell (cell_lt c0)).trans c0, (hb.cell (cell_lt c1)).trans c1, (hb.cell (cell_lt c2)).trans c2, (hb.cell (cell_lt c3)).trans c3, (hb.cell (cell_lt c4)).trans c4, (hb.cell (cell_lt c5)).trans c5, (hb.cell (cell_lt c6)).trans c6⟩
def PAt (w : World) (b o : Nat) (p : Plc) : Prop := PCs w b o p ∧ POk w p
theorem PAt.below {w w' : World} {b o : Nat} {p : Plc} (h : PAt w b o p) (hb : Below w.heap.size w w') : PAt w' b o p := ⟨h.1.below hb, h.2.below hb⟩
/-- A slice of places. -/
def Pls (w : World) (a : Option Addr) (l : List Plc) : Prop := l = [] ∨ ∃ b off, a = some ⟨b, off, none⟩ ∧ ∀ (k : Nat) p, l[k]? = some p → PAt w b (off + k * 7) p
theorem Pls.below {w w' : World} {a : Option Addr} {l : List Plc} (h : Pls w a l) (hb : Below w.heap.size w w') : Pls w' a l := by
  rcases h with h | ⟨b, off, e, hc⟩
  · exact .inl h
  · exact .inr ⟨b, off, e, fun k p hk => (hc k p hk).below hb⟩
theorem Pls.nil (w : World) (a : Option Addr) : Pls w a [] := .inl rfl
theorem Pls.at {w : World} {a : Option Addr} {l : List Plc} (h : Pls w a l) {k : Nat} (hk : k < l.length) : ∃ b off, a = some ⟨b, off, none⟩ ∧ ∀ (k : Nat) p, l[k]? = some p → PAt w b (off + k * 7) p := by
  rcases h with e | h
  · rw [e] at hk; simp at hk
  · exact h
theorem Pls.mem {w : World} {a : Option Addr} {l : List Plc} (h : Pls w a l) {p : Plc} (hp : p ∈ l) : POk w p := by
  obtain ⟨k, hk, e⟩ := List.getElem_of_mem hp
  obtain ⟨b, off, _, hc⟩ := h.at hk
  exact (hc k p (by rw [List.getElem?_eq_getElem hk, e])).2
theorem Pls.take {w : World} {a : Option Addr} {l : List Plc} (h : Pls w a l) (n : Nat) : Pls w a (l.take n) := by
  rcases h with rfl | ⟨b, off, e, hc⟩
  · exact .inl (by simp)
  · refine .inr ⟨b, off, e, fun k p hk => hc k p ?_⟩
    rw [List.getElem?_take] at hk
    split at hk
    · exact hk
    · cases hk
theorem Pls.drop {w : World} {b off : Nat} {l : List Plc} (h : Pls w (some ⟨b, off, none⟩) l) (n : Nat) : Pls w (some ⟨b, off + n * 7, none⟩) (l.drop n) := by
  rcases h with rfl | ⟨b', off', e, hc⟩
  · exact .inl (by simp)
  · cases e
    refine .inr ⟨_, _, rfl, fun k p hk => ?_⟩
    rw [List.getElem?_drop] at hk
    have := hc _ p hk
    rwa [show off + (n + k) * 7 = off + n * 7 + k * 7 by omega] at this
/-- Places that rise. -/
def Ris9 (l : List Plc) : Prop := l.Pairwise fun p q => p.k < q.k
def ks (l : List Plc) : List Int := l.map Plc.k
theorem ks_at {l : List Plc} {k : Nat} {p : Plc} (h : l[k]? = some p) : (ks l).getD k 0 = p.k := by
  simp [ks, List.getD_eq_getElem?_getD, h]
def ltK (id : Int) (l : List Plc) : List Plc := l.filter fun p => decide (p.k < id)
def gtK (id : Int) (l : List Plc) : List Plc := l.filter fun p => decide (id < p.k)
theorem split9 (id : Int) : ∀ (l : List Plc) (k : Nat), k ≤ l.length → (∀ j, j < k → (ks l).getD j 0 < id) → (∀ j, k ≤ j → j < l.length → id ≤ (ks l).getD j 0) → l.take k = ltK id l ∧ l.drop k = l.filter (fun p => decide (id ≤ p.k))
  | [], k, _, _, _ => by simp [ltK]
  | p :: r, 0, _, _, h2 => by
    have h3 : ∀ x ∈ p :: r, id ≤ x.k := fun x hx => by
      obtain ⟨i, hi, e⟩ := List.getElem_of_mem hx
      have := h2 i (by omega) hi
      rwa [ks_at (by rw [List.getElem?_eq_getElem hi, e])] at this
    constructor
    · unfold ltK
      rw [List.take_zero, eq_comm, List.filter_eq_nil_iff]
      intro x hx
      have := h3 x hx
      simp; omega
    · rw [List.drop_zero, eq_comm, List.filter_eq_self]
      intro x hx
      simpa using h3 x hx
  | p :: r, k + 1, hk, h1, h2 => by
    have h0 : p.k < id := by have := h1 0 (by omega); simpa [ks] using this
    have ih := split9 id r k (by simpa using hk) (fun j hj => by have := h1 (j + 1) (by omega); simpa [ks] using this) (fun j hj hj2 => by have := h2 (j + 1) (by omega) (by simp; omega); simpa [ks] using this)
    constructor
    · unfold ltK at *
      rw [List.take_succ_cons, List.filter_cons, if_pos (by simpa using h0), ih.1]
    · rw [List.drop_succ_cons, List.filter_cons, if_neg (by simp; omega), ih.2]
theorem gt9 (id : Int) (l : List Plc) (hr : Ris9 l) (k : Nat) (h : l.drop k = l.filter (fun p => decide (id ≤ p.k))) :
    (∀ p, l[k]? = some p → p.k = id → l.drop (k + 1) = gtK id l) ∧ ((∀ p, l[k]? = some p → p.k ≠ id) → l.drop k = gtK id l) := by
  have hg : gtK id l = (l.drop k).filter fun p => decide (id < p.k) := by
    rw [h, List.filter_filter]
    unfold gtK
    congr 1
    funext p
    by_cases h1 : id < p.k
    · simp [h1]; omega
    · simp [h1]
  have hp : ∀ (x : Plc) r, l.drop k = x :: r → ∀ y ∈ r, x.k < y.k := fun x r e => by
    have h1 : (l.drop k).Pairwise fun p q => p.k < q.k := List.Pairwise.sublist (List.drop_sublist k l) hr
    rw [e, List.pairwise_cons] at h1
    exact h1.1
  constructor
  · intro p hs e
    obtain ⟨hk, es⟩ := List.getElem?_eq_some_iff.1 hs
    have hd : l.drop k = p :: l.drop (k + 1) := by rw [List.drop_eq_getElem_cons hk, es]
    rw [hg, hd, List.filter_cons, if_neg (by simp; omega), eq_comm, List.filter_eq_self]
    intro y hy
    have := hp _ _ hd y hy
    simp; omega
  · intro hne
    rw [hg, eq_comm, List.filter_eq_self]
    intro y hy
    have h1 : y ∈ l.filter (fun p => decide (id ≤ p.k)) := h ▸ hy
    have h2 : id ≤ y.k := by simpa using (List.mem_filter.1 h1).2
    rcases hd : l.drop k with _ | ⟨p, r⟩
    · rw [hd] at hy; cases hy
    · have hs : l[k]? = some p := by
        have : (l.drop k)[0]? = some p := by rw [hd]; rfl
        simpa using this
      have h3 := hne p hs
      have h4 : id ≤ p.k := by
        have h5 : p ∈ l.filter (fun p => decide (id ≤ p.k)) := h ▸ (by rw [hd]; exact List.mem_cons_self ..)
        simpa using (List.mem_filter.1 h5).2
      rw [hd] at hy
      rcases List.mem_cons.1 hy with rfl | hy
      · simp; omega
      · have := hp _ _ hd y hy
        simp; omega
theorem no_k {id : Int} {l : List Plc} {k : Nat} (h1 : l.take k = ltK id l) (h2 : l.drop k = gtK id l) : ∀ p ∈ l, p.k ≠ id := by
  intro p hs e
  rw [← List.take_append_drop k l, h1, h2] at hs
  rcases List.mem_append.1 hs with h | h
  · have := (List.mem_filter.1 h).2; simp at this; omega
  · have := (List.mem_filter.1 h).2; simp at this; omega
/-- What find answers. -/
def Found9 (id : Int) (l : List Plc) (k : Nat) (b : Bool) : Prop :=
  k ≤ l.length ∧ l.take k = ltK id l ∧ ((b = true ∧ (∃ p, l[k]? = some p ∧ p.k = id) ∧ l.drop (k + 1) = gtK id l) ∨ (b = false ∧ (∀ p ∈ l, p.k ≠ id) ∧ l.drop k = gtK id l))
theorem ris_inj9 {l : List Plc} (hr : Ris9 l) {p q : Plc} (hp : p ∈ l) (hq : q ∈ l) (e : p.k = q.k) : p = q := by
  obtain ⟨i, hi, rfl⟩ := List.getElem_of_mem hp
  obtain ⟨j, hj, rfl⟩ := List.getElem_of_mem hq
  unfold Ris9 at hr
  rw [List.pairwise_iff_getElem] at hr
  rcases Nat.lt_trichotomy i j with h | h | h
  · have := hr i j hi hj h; omega
  · subst h; rfl
  · have := hr j i hj hi h; omega
/-- The place of a key. -/
def at9 (id : Int) (l : List Plc) : Option Plc := l.find? fun p => p.k == id
theorem at9_some {id : Int} {l : List Plc} (hr : Ris9 l) {p : Plc} (hp : p ∈ l) (e : p.k = id) : at9 id l = some p := by
  unfold at9
  cases hf : l.find? (fun p => p.k == id) with
  | none => rw [List.find?_eq_none] at hf; have := hf p hp; simp at this; exact absurd e this
  | some q =>
    have h1 := List.find?_some hf
    have h2 := List.mem_of_find?_eq_some hf
    simp at h1
    rw [ris_inj9 hr hp h2 (by omega)]
theorem at9_none {id : Int} {l : List Plc} (h : ∀ p ∈ l, p.k ≠ id) : at9 id l = none := by
  unfold at9
  rw [List.find?_eq_none]
  intro p hp
  simpa using h p hp
/-- A key is a port and a group. -/
theorem key_lt {p q g h : Int} (h1 : 0 ≤ g ∧ g ≤ 4294967295) (h2 : 0 ≤ h ∧ h ≤ 4294967295) : p * 4294967296 + g < q * 4294967296 + h ↔ p < q ∨ (p = q ∧ g < h) := by omega
theorem key_eq {p q g h : Int} (h1 : 0 ≤ g ∧ g ≤ 4294967295) (h2 : 0 ≤ h ∧ h ≤ 4294967295) : p * 4294967296 + g = q * 4294967296 + h ↔ p = q ∧ g = h := by omega

/-- Cells of places. -/
def pcs (p : Plc) : List Value := [.int .i64 p.port, .int .i64 p.v1, .int .i64 p.v2, .int .u32 p.g, .bool p.ex, .int .i64 p.left, p.sl]
def pv (l : List Plc) : List Value := l.flatMap pcs
theorem pv_cons (p : Plc) (r : List Plc) : pv (p :: r) = pcs p ++ pv r := by simp [pv]
theorem pv_append (a b : List Plc) : pv (a ++ b) = pv a ++ pv b := by simp [pv]
theorem pv_one' (p : Plc) : pv [p] = pcs p := by simp [pv]
theorem pcs_len (p : Plc) : (pcs p).length = 7 := rfl
theorem pv_len (l : List Plc) : (pv l).length = l.length * 7 := by
  induction l with
  | nil => rfl
  | cons p r ih => rw [pv_cons, List.length_append, ih, List.length_cons, pcs_len]; omega
theorem pv_at (l : List Plc) : ∀ (k : Nat) (p : Plc), l[k]? = some p → ∀ j, j < 7 → (pv l)[k * 7 + j]? = (pcs p)[j]? := by
  induction l with
  | nil => intro k s h; simp at h
  | cons t r ih =>
    intro k p h j hj
    rw [pv_cons]
    cases k with
    | zero =>
      simp at h; subst h
      rw [List.getElem?_append_left (by rw [pcs_len]; omega)]
      simp
    | succ k =>
      have h' : r[k]? = some p := by simpa using h
      rw [List.getElem?_append_right (by rw [pcs_len]; omega)]
      rw [show (k + 1) * 7 + j - (pcs t).length = k * 7 + j by rw [pcs_len]; omega]
      exact ih k p h' j hj
theorem pcs_one (p : Plc) : ∀ u ∈ pcs p, u.oneCell' = true := by
  intro u hu
  simp only [pcs, List.mem_cons, List.not_mem_nil, or_false] at hu
  rcases hu with rfl | rfl | rfl | rfl | rfl | rfl | rfl <;> rfl
theorem pv_one (l : List Plc) : ∀ u ∈ pv l, u.oneCell' = true := by
  intro u hu
  obtain ⟨p, _, h⟩ := List.mem_flatMap.1 hu
  exact pcs_one p u h
theorem Pls.cell {w : World} {b off : Nat} {l : List Plc} (h : Pls w (some ⟨b, off, none⟩) l) : ∀ j u, (pv l)[j]? = some u → w.cell? ⟨b, off + j, none⟩ = some u := by
  intro j u hu
  have hj : j < l.length * 7 := by rw [← pv_len]; exact (List.getElem?_eq_some_iff.1 hu).1
  obtain ⟨b', off', e, hc⟩ := h.at (k := j / 7) (by omega)
  cases e
  obtain ⟨p, hs⟩ : ∃ p, l[j / 7]? = some p := ⟨_, List.getElem?_eq_getElem (by omega)⟩
  obtain ⟨⟨c0, c1, c2, c3, c4, c5, c6⟩, _⟩ := hc _ p hs
  have h1 := pv_at l (j / 7) p hs (j % 7) (by omega)
  rw [show j / 7 * 7 + j % 7 = j by omega, hu] at h1
  have h2 : j % 7 = 0 ∨ j % 7 = 1 ∨ j % 7 = 2 ∨ j % 7 = 3 ∨ j % 7 = 4 ∨ j % 7 = 5 ∨ j % 7 = 6 := by omega
  rcases h2 with h2 | h2 | h2 | h2 | h2 | h2 | h2
  · rw [h2] at h1; simp [pcs] at h1; rw [h1, show off + j = off + j / 7 * 7 by omega]; exact c0
  · rw [h2] at h1; simp [pcs] at h1; rw [h1, show off + j = off + j / 7 * 7 + 1 by omega]; exact c1
  · rw [h2] at h1; simp [pcs] at h1; rw [h1, show off + j = off + j / 7 * 7 + 2 by omega]; exact c2
  · rw [h2] at h1; simp [pcs] at h1; rw [h1, show off + j = off + j / 7 * 7 + 3 by omega]; exact c3
  · rw [h2] at h1; simp [pcs] at h1; rw [h1, show off + j = off + j / 7 * 7 + 4 by omega]; exact c4
  · rw [h2] at h1; simp [pcs] at h1; rw [h1, show off + j = off + j / 7 * 7 + 5 by omega]; exact c5
  · rw [h2] at h1; simp [pcs] at h1; rw [h1, show off + j = off + j / 7 * 7 + 6 by omega]; exact c6
theorem own_pls {w : World} {B n : Nat} {a : Option Addr} {c : Nat} {l : List Plc} (h : w.ownsRow B 77 7 (.slice a n c) n (pv l)) (hn : l.length = n) (hf : ∀ p ∈ l, POk w p) : Pls w a l := by
  by_cases h0 : n = 0
  · exact .inl (List.eq_nil_of_length_eq_zero (by omega))
  obtain ⟨g, rfl, _, _, hc⟩ := kown_at h (by omega)
  refine .inr ⟨g, 0, rfl, fun k p hk => ⟨?_, hf p (List.mem_of_getElem? hk)⟩⟩
  have at' : ∀ j u, j < 7 → (pcs p)[j]? = some u → w.cell? ⟨g, 0 + k * 7 + j, none⟩ = some u := fun j u hj hu => hc (0 + k * 7 + j) u (by rw [Nat.zero_add, pv_at l k p hk j hj]; exact hu)
  exact ⟨at' 0 _ (by omega) rfl, at' 1 _ (by omega) rfl, at' 2 _ (by omega) rfl, at' 3 _ (by omega) rfl, at' 4 _ (by omega) rfl, at' 5 _ (by omega) rfl, at' 6 _ (by omega) rfl⟩
/-- .. a store of a place into a row of one's own. -/
theorem pv_set1 (l : List Plc) : ∀ (k : Nat) (p q : Plc), l[k]? = some q → (((((((pv l).set (k * 7) (.int .i64 p.port)).set (k * 7 + 1) (.int .i64 p.v1)).set (k * 7 + 2) (.int .i64 p.v2)).set (k * 7 + 3) (.int .u32 p.g)).set (k * 7 + 4) (.bool p.ex)).set (k * 7 + 5) (.int .i64 p.left)).set (k * 7 + 6) p.sl = pv (l.set k p) := by
  induction l with
  | nil => intro k p q h; simp at h
  | cons t r ih =>
    intro k p q h
    cases k with
    | zero =>
      rw [List.set_cons_zero, pv_cons, pv_cons]
      simp [pcs]
    | succ k =>
      have h' : r[k]? = some q := by simpa using h
      have e : ∀ (j : Nat) (u : Value) (xs : List Value), (pcs t ++ xs).set ((k + 1) * 7 + j) u = pcs t ++ xs.set (k * 7 + j) u := fun j u xs => by
        rw [List.set_append_right _ _ (by rw [pcs_len]; omega), pcs_len, show (k + 1) * 7 + j - 7 = k * 7 + j by omega]
      have e0 : ∀ (u : Value) (xs : List Value), (pcs t ++ xs).set ((k + 1) * 7) u = pcs t ++ xs.set (k * 7) u := fun u xs => e 0 u xs
      rw [List.set_cons_succ, pv_cons, pv_cons, e0, e, e, e, e, e, e, ih k p q h']
theorem infoPl : (Tryz.prog.info? 77).map (fun i => (i.zero, i.size, i.bytes)) = some (some (.agg #[.int .i64 0, .int .i64 0, .int .i64 0, .int .u32 0, .bool false, .int .i64 0, .slice none 0 0]), 7, 64) := by kernel_rfl
/-- The sources' rows and a store into a block of another type. -/
theorem HT.ty {w w' : World} {X : Nat} {a : Option Addr} {s : List Hd} {cs : Array Value} {T : TypeId} {p : Nat × Nat} (h : HT w a s) (hX : w.heap[X]? = some (.cells cs T p)) (hne : T ≠ 86) (hb : But1 X w w') : HT w' a s := by
  rcases h.2 with h1 | ⟨b, off, cs', p', e, h1⟩
  · exact ⟨⟨.inl h1, h.1.2⟩, .inl h1⟩
  · have hbX : b ≠ X := by
      rintro rfl
      rw [hX] at h1
      simp only [Option.some.injEq, Obj.cells.injEq] at h1
      exact hne h1.2.1
    have hk := hb.block b (Array.getElem?_eq_some_iff.1 h1).1 hbX
    refine ⟨⟨?_, h.1.2⟩, .inr ⟨b, off, cs', p', e, hk.trans h1⟩⟩
    rcases h.1.1 with h2 | ⟨b', off', e', hc⟩
    · exact .inl h2
    · rw [e] at e'
      cases e'
      exact .inr ⟨b, off, e, fun k x hx => ⟨(World.cell?_of_block (w := w) hk).trans (hc k x hx).1, (World.cell?_of_block (w := w) hk).trans (hc k x hx).2⟩⟩
theorem PT.ty {w w' : World} {X : Nat} {q : Plc} {cs : Array Value} {T : TypeId} {p : Nat × Nat} (h : PT w q) (hX : w.heap[X]? = some (.cells cs T p)) (hne : T ≠ 86) (hb : But1 X w w') : PT w' q := ⟨h.1.ty hX hne hb, h.2⟩
theorem PT.grown {w w' : World} {q : Plc} (h : PT w q) {B size n : Nat} {e : TypeId} {v : Value} {xs : List Value} (ho : w.ownsRow B e size v n xs) (hne : 86 ≠ e) (hg : w.grownBy w' v.ownBlock) : PT w' q := ⟨h.1.grown ho hne hg, h.2⟩
end Go.Proofs.YtiabbkjmgaemaaaGreat
/- Rows of places: Clone, Grow, Concat. -/
namespace Go.Proofs.YtiabbkjmgaemaaaGreat
set_option linter.unusedVariables false
open Go.RowKit

theorem takeP9 {α : Type} {l : List α} {k : Nat} {x : α} (h : l[k]? = some x) : l.take (k + 1) = l.take k ++ [x] := takeH h
/-- A row of places of the call's own that is handed back. -/
def OutP9 (w : World) (e : Ending) (w' : World) (l : List Plc) : Prop := (∃ a c, e = .returned (.slice a l.length c) ∧ w'.ownsRow w.heap.size 77 7 (.slice a l.length c) l.length (pv l)) ∧ Below w.heap.size w w'
set_option maxRecDepth 100000 in
/-- slices.Clone of sources. -/
theorem lCloneP (a : Option Addr) (n c : Nat) (s : List Plc) (w : World) (hx : s.length = n) (hm : n ≤ 100000) (h : Pls w a s) (hf : a = none → c = 0) :
    Calls Tryz.prog 68 #[.slice a n c] w fun e w' => OutP9 w e w' s := by
  obtain ⟨i0, hi0, hz0, hz1, hz2⟩ := info_parts infoPl
  have HX := Lib.hid hx
  match a, hf, h with
  | none, hf, h =>
    obtain rfl : c = 0 := hf rfl
    have e : s = [] := by
      rcases h with e | ⟨_, _, e, _⟩
      · exact e
      · cases e
    subst e
    obtain rfl : n = 0 := by simpa using hx.symm
    clear hx
    have heq : ∀ w : World, (binOp .eql 44 (.slice none 0 0) (.slice none 0 0)).run Tryz.prog w = .ok (.bool true) w := fun w => by kernel_rfl
    go_enter Tryz.func68, Tryz.ntmps68
    go_wp2
    go_ret
    exact ⟨⟨none, 0, rfl, World.ownsRow_nil _ _ _ _⟩, Below.refl _ _⟩
  | some ad, hf, h =>
    have HC : Hid (∀ j u, (pv s)[j]? = some u → w.cell? (ad.add j) = some u) := Lib.hid (by
      intro j u hu
      rcases h with e | ⟨b, off, e, hc⟩
      · subst e; simp [pv] at hu
      · obtain rfl : ad = ⟨b, off, none⟩ := by simpa using e
        rw [add_flat]
        exact Pls.cell (.inr ⟨b, off, rfl, hc⟩) j u hu)
    have OW := Lib.hid (own_mtv w w.heap.size 77 7 (Nat.le_refl _))
    have HLN : Hid ((pv s).length = n * 7) := Lib.hid (by rw [pv_len, hx])
    clear hx h hf
    have heq : ∀ w : World, (binOp .eql 44 (.slice (some ad) n c) (.slice none 0 0)).run Tryz.prog w = .ok (.bool false) w := fun w => by kernel_rfl
    go_enter Tryz.func68, Tryz.ntmps68
    go_wp2_with ((refine wpList_append_own (w.alloc (.cells #[] 77)) rfl (.tmp 5) (.tmp 6) 44 rfl w.heap.size 77 i0 _ 7 64 Tryz.underlying44 hi0 hz0 hz1 hz2 rfl (by decide) _ 0 [] rfl OW.out ad n c (pv s) rfl HLN.out (fun j u hu => (((bel1 w _).cell (cell_lt (HC.out j u hu))).trans (HC.out j u hu))) (pv_one s) (by unfold maxLen; omega) (by omega) (by simp) ?_; intro v' w' hown hg hlast))
    go_ret
    obtain ⟨a1, c1, rfl, hfl⟩ := own_sl hown
    have hb : Below w.heap.size w w' := (bel1 w _).trans (grown_below OW.out hg (by simp))
    rw [List.nil_append] at hown
    simp only [Nat.zero_add] at hown ⊢
    rw [← HX.out] at hown ⊢
    exact ⟨⟨_, _, rfl, hown⟩, hb⟩
/-- append(own, src...), elements of whatever size. -/
theorem wpList_app_row {w : World} {ops : Array Oper} {rest : List Oper} {o : Oper} {a : Act} {Q : Exit → Act → World → Prop} (hgd : o.guard = none) (t e : TypeId) (i0 : TypeInfo) (zv : Value) (size bytes : Nat) (hu : Tryz.prog.underlying t = some (.slice e)) (hi : Tryz.prog.info? e = some i0)
    (hz0 : i0.zero = some zv) (hz1 : i0.size = size) (hz2 : i0.bytes = bytes) (hzs : zv.cells.size = size) (hsz : 0 < size) (hby : bytes ≤ 1000) (s x : Operand)
    (ho : o.op = .call { callee := .builtin .append, args := #[s, x], argTypes := #[t, t] }) (B : Nat) (v : Value) (n : Nat) (xs : List Value) (hs : a.eval s = v) (hown : w.ownsRow B e size v n xs)
    (a2 : Option Addr) (m c : Nat) (ys : List Value) (hx : a.eval x = .slice a2 m c) (hy : ys.length = m * size) (hb : ∀ ad, a2 = some ad → ∀ j u, ys[j]? = some u → w.cell? (ad.add j) = some u) (h1 : ∀ u ∈ ys, u.oneCell' = true) (hf : a2 = none → m = 0 ∧ c = 0) (hn : n + m ≤ 1000000) (hB : B ≤ w.heap.size)
    (h : ∀ a' cap' w', Hid (w'.ownsRow B e size (.slice a' (n + m) cap') (n + m) (xs ++ ys)) → Hid (w.grownBy w' v.ownBlock) → wpList Tryz.prog ops Q rest (a.put o.dst (.slice a' (n + m) cap')) w') : wpList Tryz.prog ops Q (o :: rest) a w := by
  match a2, hf, hb, hx with
  | none, hf, hb, hx =>
    obtain ⟨rfl, rfl⟩ := hf rfl
    obtain rfl : ys = [] := List.eq_nil_of_length_eq_zero (by simpa using hy)
    refine wpList_append_own_none hgd s x t ho B e i0 size hu hi v n xs hs hown hx ?_
    obtain ⟨a1, c1, rfl, _⟩ := own_sl hown
    have := h a1 c1 w (by rw [List.append_nil]; exact hown) (World.grownBy.refl _ _)
    simpa using this
  | some ad, hf, hb, hx =>
    refine wpList_append_own w hgd s x t ho B e i0 zv size bytes hu hi hz0 hz1 hz2 hzs hsz v n xs hs hown ad m c ys hx hy (hb ad rfl) h1 (by unfold maxLen; omega) (by have : (n + m) * bytes ≤ 1000000 * 1000 := Nat.mul_le_mul (by omega) hby; omega) hB ?_
    intro v' w' hown' hgrow _
    obtain ⟨a', c', rfl, _⟩ := own_sl hown'
    exact h a' c' w' hown' hgrow
set_option maxRecDepth 100000 in
theorem lGrowP (n : Nat) (w : World) (hn : n ≤ 1000000) :
    Calls Tryz.prog 120 #[.slice none 0 0, .int .i64 n] w fun e w' => ∃ a c, e = .returned (.slice a 0 c) ∧ w'.ownsRow w.heap.size 77 7 (.slice a 0 c) 0 [] ∧ Below w.heap.size w w' := by
  obtain ⟨i0, hi, hz0, hz1, hz2⟩ := info_parts infoPl
  by_cases h0 : 0 < n
  · have hr : ∀ ty, (Builtin.append_ #[44, 3] ty #[.slice none 0 0, .int .i64 n]).run Tryz.prog w = _ := fun ty => Lib.run_append_nil_zeros w 44 3 ty 77 i0 _ .i64 .i64 Tryz.underlying44 Tryz.underlying3 hi hz0 n h0 (by omega) (by omega) (by rw [hz2]; omega)
    have hge := grownCap_ge w n 0 77
    have hle := grownCap_le_maxLen w n 0 77 (by unfold maxLen; omega)
    have hown : (w.drew.alloc (.cells (Builtin.zeroCells (Value.agg #[.int .i64 0, .int .i64 0, .int .i64 0, .int .u32 0, .bool false, .int .i64 0, .slice none 0 0]).cells n ++ Builtin.zeroCells (Value.agg #[.int .i64 0, .int .i64 0, .int .i64 0, .int .u32 0, .bool false, .int .i64 0, .slice none 0 0]).cells (grownCap w n 0 77 - n)) 77)).ownsRow w.heap.size 77 7 (.slice (some ⟨w.heap.size, 0, none⟩) 0 (grownCap w n 0 77)) 0 [] := by
      refine ⟨by simp, .inr ⟨_, _, _, rfl, Nat.le_refl _, Go.Deep.blk_alloc_new w.drew _, Nat.zero_le _, hle, ?_, by simp⟩⟩
      simp only [Array.size_append, size_zeroCells, Value.cells, List.size_toArray, List.length_cons, List.length_nil]
      omega
    have hbel : Below w.heap.size w (w.drew.alloc (.cells (Builtin.zeroCells (Value.agg #[.int .i64 0, .int .i64 0, .int .i64 0, .int .u32 0, .bool false, .int .i64 0, .slice none 0 0]).cells n ++ Builtin.zeroCells (Value.agg #[.int .i64 0, .int .i64 0, .int .i64 0, .int .u32 0, .bool false, .int .i64 0, .slice none 0 0]).cells (grownCap w n 0 77 - n)) 77)) := (bdrawn (Below.refl _ w) 1).alloc (Nat.le_refl _) _
    have HOW := Lib.hid hown
    have HBE := Lib.hid hbel
    clear hown hbel
    go_enter Tryz.func120, Tryz.ntmps120
    go_wp2_with (at_builtin; refine Lib.wpList_append_run _ rfl (.tmp 20) (.tmp 21) _ _ rfl _ _ rfl rfl _ _ (hr _) ?_)
    go_ret
    exact ⟨_, _, rfl, HOW.out, HBE.out⟩
  · obtain rfl : n = 0 := by omega
    go_enter Tryz.func120, Tryz.ntmps120
    go_wp2
    go_ret
    exact ⟨none, 0, rfl, World.ownsRow_nil _ _ _ _, Below.refl _ _⟩
/-- Rows of places, and where they lie. -/
abbrev Rw9 := List Plc × Option Addr × Nat
def Rws9 (w : World) (A : Option Addr) (R : List Rw9) : Prop := R = [] ∨ ∃ b off, A = some ⟨b, off, none⟩ ∧ ∀ (k : Nat) r, R[k]? = some r → w.cell? ⟨b, off + k, none⟩ = some (.slice r.2.1 r.1.length r.2.2) ∧ Pls w r.2.1 r.1 ∧ (r.2.1 = none → r.2.2 = 0)
theorem Rws9.below {w w' : World} {A : Option Addr} {R : List Rw9} (h : Rws9 w A R) (hb : Below w.heap.size w w') : Rws9 w' A R := by
  rcases h with h | ⟨b, off, e, hc⟩
  · exact .inl h
  · exact .inr ⟨b, off, e, fun k r hk => ⟨(hb.cell (cell_lt (hc k r hk).1)).trans (hc k r hk).1, (hc k r hk).2.1.below hb, (hc k r hk).2.2⟩⟩
theorem Rws9.at {w : World} {A : Option Addr} {R : List Rw9} (h : Rws9 w A R) {k : Nat} (hk : k < R.length) : ∃ b off, A = some ⟨b, off, none⟩ ∧ ∀ (k : Nat) r, R[k]? = some r → w.cell? ⟨b, off + k, none⟩ = some (.slice r.2.1 r.1.length r.2.2) ∧ Pls w r.2.1 r.1 ∧ (r.2.1 = none → r.2.2 = 0) := by
  rcases h with e | h
  · rw [e] at hk; simp at hk
  · exact h
/-- All of them. -/
def alls9 (R : List Rw9) : List Plc := R.flatMap (·.1)
theorem alls9_snoc (R : List Rw9) (r : Rw9) : alls9 (R ++ [r]) = alls9 R ++ r.1 := by simp [alls9]
theorem alls9_take (R : List Rw9) (k : Nat) : (alls9 (R.take k)).length ≤ (alls9 R).length := by
  have h : alls9 R = alls9 (R.take k) ++ alls9 (R.drop k) := by
    unfold alls9; rw [← List.flatMap_append, List.take_append_drop]
  rw [h, List.length_append]; omega
theorem row_src9 {w : World} {a2 : Option Addr} {ss : List Plc} (h : Pls w a2 ss) : ∀ ad, a2 = some ad → ∀ j u, (pv ss)[j]? = some u → w.cell? (ad.add j) = some u := by
  intro ad e j u hu
  subst e
  have hj : j < ss.length * 7 := by rw [← pv_len]; exact (List.getElem?_eq_some_iff.1 hu).1
  obtain ⟨b, off, e, _⟩ := h.at (k := 0) (by omega)
  cases e
  rw [add_flat]; exact h.cell j u hu
theorem row_nil9 {w : World} {a2 : Option Addr} {ss : List Plc} {c : Nat} (h : Pls w a2 ss) (hf : a2 = none → c = 0) : a2 = none → ss.length = 0 ∧ c = 0 := by
  intro e
  refine ⟨?_, hf e⟩
  rcases h with h | ⟨_, _, e2, _⟩
  · rw [h]; rfl
  · rw [e] at e2; cases e2
set_option maxRecDepth 100000 in
set_option maxHeartbeats 4000000 in
theorem lConcatP (A : Option Addr) (m cA : Nat) (R : List Rw9) (w : World) (hx : R.length = m) (hm : m ≤ 1000) (hN : (alls9 R).length ≤ 100000) (hR : Rws9 w A R) :
    Calls Tryz.prog 93 #[.slice A m cA] w fun e w' => ∃ a c, e = .returned (.slice a (alls9 R).length c) ∧ w'.ownsRow w.heap.size 77 7 (.slice a (alls9 R).length c) (alls9 R).length (pv (alls9 R)) ∧ Below w.heap.size w w' := by
  obtain ⟨i0, hi, hz0, hz1, hz2⟩ := info_parts infoPl
  have HX := Lib.hid hx
  have HR := Lib.hid hR
  have HT := Lib.hid (alls9_take R)
  clear hx hR
  go_enter Tryz.func93, Tryz.ntmps93
  go_wp2
  go_loopw [3, 11] (fun v3 v11 wr => ∃ k : Nat, v3 = .int .i64 ((alls9 (R.take k)).length : Int) ∧ v11 = .int .i64 (k : Int) ∧ k ≤ m ∧ wr = w) (fun _ v _ => m - (intOf v).toNat)
  case atStart => exact ⟨0, by simp [alls9], rfl, by omega, rfl⟩
  case round =>
    obtain ⟨k, rfl, rfl, hk, hw⟩ := hrel
    replace hw := hw.symm
    subst hw
    have hl1 := HT.out k
    by_cases hlt : k < m
    · obtain ⟨b, off, rfl, hc⟩ := HR.out.at (k := k) (by rw [HX.out]; exact hlt)
      obtain ⟨⟨rs, ra, rc⟩, hfk⟩ : ∃ r, R[k]? = some r := ⟨_, List.getElem?_eq_getElem (by rw [HX.out]; exact hlt)⟩
      have c0 := (hc k _ hfk).1
      have HS := Lib.hid (show alls9 (R.take (k + 1)) = alls9 (R.take k) ++ rs by rw [takeP9 hfk, alls9_snoc])
      have hl2 : (alls9 (R.take k)).length + rs.length ≤ 100000 := by have := HT.out (k + 1); rw [HS.out, List.length_append] at this; omega
      have hkz : (k : Int) < (m : Int) := by omega
      have h0 : decide (((alls9 (R.take k)).length : Int) + (rs.length : Int) < 0) = false := decide_eq_false (by omega)
      clear hc hfk
      go_wp2
      go_roundw
      case rel => exact ⟨k + 1, by rw [HS.out, List.length_append]; go_num, by go_num, by omega, by first | rfl | trivial⟩
      case measure => simp [intOf]; omega
    · obtain rfl : k = m := by omega
      have htk : R.take k = R := List.take_of_length_le (by rw [HX.out]; exact Nat.le_refl _)
      rw [htk] at hl1 ⊢
      clear htk
      go_wp2_with fail
      refine (lGrowP (alls9 R).length w (by omega)).mono ?_
      rintro e w1 ⟨a1, c1, rfl, hown, hb⟩
      have OW := Lib.hid hown
      have HB := Lib.hid hb
      clear hown hb
      go_wp2_with fail
      go_loopw [6, 27] (fun v6 v27 wr2 => ∃ (j : Nat) (a2 : Option Addr) (c2 : Nat), v6 = .slice a2 (alls9 (R.take j)).length c2 ∧ v27 = .int .i64 (j : Int) ∧ j ≤ k ∧ wr2.ownsRow w.heap.size 77 7 (.slice a2 (alls9 (R.take j)).length c2) (alls9 (R.take j)).length (pv (alls9 (R.take j))) ∧ Below w.heap.size w wr2) (fun _ v _ => k - (intOf v).toNat)
      case atStart => exact ⟨0, a1, c1, by simp [alls9], rfl, by omega, by simpa [alls9, pv] using OW.out, HB.out⟩
      case round =>
        obtain ⟨j, a2, c2, rfl, rfl, hj, ho, hB2⟩ := hrel
        have HO := Lib.hid ho
        have HB2 := Lib.hid hB2
        have hl3 := HT.out j
        clear ho hB2
        by_cases hlt2 : j < k
        · obtain ⟨b, off, rfl, hc⟩ := HR.out.at (k := j) (by rw [HX.out]; exact hlt2)
          obtain ⟨⟨rs, ra, rc⟩, hfk⟩ : ∃ r, R[j]? = some r := ⟨_, List.getElem?_eq_getElem (by rw [HX.out]; exact hlt2)⟩
          obtain ⟨c0, hsk, hnil⟩ := hc j _ hfk
          replace c0 := (HB2.out.cell (cell_lt c0)).trans c0
          simp only [] at c0 hsk hnil
          have SK := Lib.hid (hsk.below HB2.out)
          have NI := Lib.hid (row_nil9 hsk hnil)
          have HS := Lib.hid (show alls9 (R.take (j + 1)) = alls9 (R.take j) ++ rs by rw [takeP9 hfk, alls9_snoc])
          have hl4 : (alls9 (R.take j)).length + rs.length ≤ 100000 := by have := HT.out (j + 1); rw [HS.out, List.length_append] at this; omega
          have hjz : (j : Int) < (k : Int) := by omega
          clear hc hfk hsk hnil
          go_wp2_with ((refine wpList_app_row rfl 44 77 i0 _ 7 64 Tryz.underlying44 hi hz0 hz1 hz2 rfl (by decide) (by omega) (.tmp 31) (.tmp 32) rfl w.heap.size _ (alls9 (R.take j)).length (pv (alls9 (R.take j))) rfl HO.out ra rs.length rc (pv rs) rfl (pv_len rs) (row_src9 SK.out) (pv_one rs) NI.out (by omega) HB2.out.size ?_; intro a' cap' w' hown hg))
          go_roundw
          case rel =>
            refine ⟨j + 1, a', cap', by rw [HS.out, List.length_append], by go_num, by omega, ?_, HB2.out.trans (grown_below HO.out hg.out HB2.out.size)⟩
            rw [HS.out, List.length_append, pv_append]
            exact hown.out
          case measure => simp [intOf]; omega
        · obtain rfl : j = k := by omega
          have htk : R.take j = R := List.take_of_length_le (by rw [HX.out]; exact Nat.le_refl _)
          have HO' := HO.out
          rw [htk] at HO' ⊢
          clear HO htk
          go_wp2_with fail
          go_ret
          exact ⟨_, _, rfl, HO', HB2.out⟩
end Go.Proofs.YtiabbkjmgaemaaaGreat
/- Where a place stands: keys, and sort.Search over them. -/
namespace Go.Proofs.YtiabbkjmgaemaaaGreat
set_option linter.unusedVariables false
open Go.RowKit

/-- Block X is a variable of that type. -/
def PV (w : World) (X : Nat) (po : Int) (v1 : Int) (v2 : Int) (g : Int) (ex : Bool) (left : Int) (a : Option Addr) (n : Nat) (c : Nat) : Prop := w.heap[X]? = some (.cells #[.int .i64 po, .int .i64 v1, .int .i64 v2, .int .u32 g, .bool ex, .int .i64 left, .slice a n c] 77 (0, 0))
namespace PV
variable {w w' : World} {X R : Nat} {po : Int} {v1 : Int} {v2 : Int} {g : Int} {ex : Bool} {left : Int} {a : Option Addr} {n : Nat} {c : Nat}
theorem lt (h : PV w X po v1 v2 g ex left a n c) : X < w.heap.size := (Array.getElem?_eq_some_iff.1 h).1
theorem cells (h : PV w X po v1 v2 g ex left a n c) : w.cell? ⟨X, 0, none⟩ = some (.int .i64 po) ∧ w.cell? ⟨X, 1, none⟩ = some (.int .i64 v1) ∧ w.cell? ⟨X, 2, none⟩ = some (.int .i64 v2) ∧ w.cell? ⟨X, 3, none⟩ = some (.int .u32 g) ∧ w.cell? ⟨X, 4, none⟩ = some (.bool ex) ∧ w.cell? ⟨X, 5, none⟩ = some (.int .i64 left) ∧ w.cell? ⟨X, 6, none⟩ = some (.slice a n c) ∧ w.frozen? ⟨X, 0, none⟩ = false ∧ w.frozen? ⟨X, 1, none⟩ = false ∧ w.frozen? ⟨X, 2, none⟩ = false ∧ w.frozen? ⟨X, 3, none⟩ = false ∧ w.frozen? ⟨X, 4, none⟩ = false ∧ w.frozen? ⟨X, 5, none⟩ = false ∧ w.frozen? ⟨X, 6, none⟩ = false := by
  have h' : w.heap[X]? = some (.cells #[.int .i64 po, .int .i64 v1, .int .i64 v2, .int .u32 g, .bool ex, .int .i64 left, .slice a n c] 77 (0, 0)) := h
  refine ⟨?_, ?_, ?_, ?_, ?_, ?_, ?_, ?_, ?_, ?_, ?_, ?_, ?_, ?_⟩
  all_goals first
    | (simp [World.cell?, h'])
    | (simp [World.frozen?, h'])
theorem below (h : PV w X po v1 v2 g ex left a n c) {B : Nat} (hb : Below B w w') (hX : X < B) : PV w' X po v1 v2 g ex left a n c := (hb.block X hX).trans h
theorem but (h : PV w X po v1 v2 g ex left a n c) (hb : But1 R w w') (hne : X ≠ R) : PV w' X po v1 v2 g ex left a n c := (hb.block X h.lt hne).trans h
theorem new (w : World) (po : Int) (v1 : Int) (v2 : Int) (g : Int) (ex : Bool) (left : Int) (a : Option Addr) (n : Nat) (c : Nat) : PV (w.alloc (.cells #[.int .i64 po, .int .i64 v1, .int .i64 v2, .int .u32 g, .bool ex, .int .i64 left, .slice a n c] 77)) w.heap.size po v1 v2 g ex left a n c := Go.Deep.blk_alloc_new _ _
theorem keep (h : PV w X po v1 v2 g ex left a n c) (o : Obj) : PV (w.alloc o) X po v1 v2 g ex left a n c := h.below (bel1 w o) h.lt
theorem set0 (h : PV w X po v1 v2 g ex left a n c) (po' : Int) : PV (w.setCell ⟨X, 0, none⟩ (.int .i64 po')) X po' v1 v2 g ex left a n c := v_set (j := 0) h
theorem set1 (h : PV w X po v1 v2 g ex left a n c) (v1' : Int) : PV (w.setCell ⟨X, 1, none⟩ (.int .i64 v1')) X po v1' v2 g ex left a n c := v_set (j := 1) h
theorem set2 (h : PV w X po v1 v2 g ex left a n c) (v2' : Int) : PV (w.setCell ⟨X, 2, none⟩ (.int .i64 v2')) X po v1 v2' g ex left a n c := v_set (j := 2) h
theorem set3 (h : PV w X po v1 v2 g ex left a n c) (g' : Int) : PV (w.setCell ⟨X, 3, none⟩ (.int .u32 g')) X po v1 v2 g' ex left a n c := v_set (j := 3) h
theorem set4 (h : PV w X po v1 v2 g ex left a n c) (ex' : Bool) : PV (w.setCell ⟨X, 4, none⟩ (.bool ex')) X po v1 v2 g ex' left a n c := v_set (j := 4) h
theorem set5 (h : PV w X po v1 v2 g ex left a n c) (left' : Int) : PV (w.setCell ⟨X, 5, none⟩ (.int .i64 left')) X po v1 v2 g ex left' a n c := v_set (j := 5) h
theorem set6 (h : PV w X po v1 v2 g ex left a n c) (a' : Option Addr) (n' : Nat) (c' : Nat) : PV (w.setCell ⟨X, 6, none⟩ (.slice a' n' c')) X po v1 v2 g ex left a' n' c' := v_set (j := 6) h
theorem store (h : PV w X po v1 v2 g ex left a n c) (po' : Int) (v1' : Int) (v2' : Int) (g' : Int) (ex' : Bool) (left' : Int) (a' : Option Addr) (n' : Nat) (c' : Nat) : PV (((((((w.setCell ⟨X, 0, none⟩ (.int .i64 po')).setCell ⟨X, 1, none⟩ (.int .i64 v1')).setCell ⟨X, 2, none⟩ (.int .i64 v2')).setCell ⟨X, 3, none⟩ (.int .u32 g')).setCell ⟨X, 4, none⟩ (.bool ex')).setCell ⟨X, 5, none⟩ (.int .i64 left')).setCell ⟨X, 6, none⟩ (.slice a' n' c')) X po' v1' v2' g' ex' left' a' n' c' := (((((((h.set0 po').set1 v1').set2 v2').set3 g').set4 ex').set5 left').set6 a' n' c')
theorem store_but (h : PV w X po v1 v2 g ex left a n c) (po' : Int) (v1' : Int) (v2' : Int) (g' : Int) (ex' : Bool) (left' : Int) (a' : Option Addr) (n' : Nat) (c' : Nat) : But1 X w (((((((w.setCell ⟨X, 0, none⟩ (.int .i64 po')).setCell ⟨X, 1, none⟩ (.int .i64 v1')).setCell ⟨X, 2, none⟩ (.int .i64 v2')).setCell ⟨X, 3, none⟩ (.int .u32 g')).setCell ⟨X, 4, none⟩ (.bool ex')).setCell ⟨X, 5, none⟩ (.int .i64 left')).setCell ⟨X, 6, none⟩ (.slice a' n' c')) := ((((((((But1.refl X w).trans (But1.set _ X 0 _)).trans (But1.set _ X 1 _)).trans (But1.set _ X 2 _)).trans (But1.set _ X 3 _)).trans (But1.set _ X 4 _)).trans (But1.set _ X 5 _)).trans (But1.set _ X 6 _))
theorem load (h : PV w X po v1 v2 g ex left a n c) : (loadVar 77 ⟨X, 0, none⟩).run Tryz.prog w = .ok (.agg #[.int .i64 po, .int .i64 v1, .int .i64 v2, .int .u32 g, .bool ex, .int .i64 left, .slice a n c]) w := by
  obtain ⟨c0, c1, c2, c3, c4, c5, c6, -⟩ := h.cells
  clear h
  go_simp
end PV
/-- Block X is a variable of that type. -/
def KV (w : World) (X : Nat) (po : Int) (g : Int) : Prop := w.heap[X]? = some (.cells #[.int .i64 po, .int .u32 g] 118 (0, 0))
namespace KV
variable {w w' : World} {X R : Nat} {po : Int} {g : Int}
theorem lt (h : KV w X po g) : X < w.heap.size := (Array.getElem?_eq_some_iff.1 h).1
theorem cells (h : KV w X po g) : w.cell? ⟨X, 0, none⟩ = some (.int .i64 po) ∧ w.cell? ⟨X, 1, none⟩ = some (.int .u32 g) ∧ w.frozen? ⟨X, 0, none⟩ = false ∧ w.frozen? ⟨X, 1, none⟩ = false := by
  have h' : w.heap[X]? = some (.cells #[.int .i64 po, .int .u32 g] 118 (0, 0)) := h
  refine ⟨?_, ?_, ?_, ?_⟩
  all_goals first
    | (simp [World.cell?, h'])
    | (simp [World.frozen?, h'])
theorem below (h : KV w X po g) {B : Nat} (hb : Below B w w') (hX : X < B) : KV w' X po g := (hb.block X hX).trans h
theorem but (h : KV w X po g) (hb : But1 R w w') (hne : X ≠ R) : KV w' X po g := (hb.block X h.lt hne).trans h
theorem new (w : World) (po : Int) (g : Int) : KV (w.alloc (.cells #[.int .i64 po, .int .u32 g] 118)) w.heap.size po g := Go.Deep.blk_alloc_new _ _
theorem keep (h : KV w X po g) (o : Obj) : KV (w.alloc o) X po g := h.below (bel1 w o) h.lt
theorem set0 (h : KV w X po g) (po' : Int) : KV (w.setCell ⟨X, 0, none⟩ (.int .i64 po')) X po' g := v_set (j := 0) h
theorem set1 (h : KV w X po g) (g' : Int) : KV (w.setCell ⟨X, 1, none⟩ (.int .u32 g')) X po g' := v_set (j := 1) h
theorem store (h : KV w X po g) (po' : Int) (g' : Int) : KV ((w.setCell ⟨X, 0, none⟩ (.int .i64 po')).setCell ⟨X, 1, none⟩ (.int .u32 g')) X po' g' := ((h.set0 po').set1 g')
theorem store_but (h : KV w X po g) (po' : Int) (g' : Int) : But1 X w ((w.setCell ⟨X, 0, none⟩ (.int .i64 po')).setCell ⟨X, 1, none⟩ (.int .u32 g')) := (((But1.refl X w).trans (But1.set _ X 0 _)).trans (But1.set _ X 1 _))
theorem load (h : KV w X po g) : (loadVar 118 ⟨X, 0, none⟩).run Tryz.prog w = .ok (.agg #[.int .i64 po, .int .u32 g]) w := by
  obtain ⟨c0, c1, -⟩ := h.cells
  clear h
  go_simp
end KV
/-- Block X is a variable of that type. -/
def DV (w : World) (X : Nat) (kp : Int) (la : Int) (lim : Int) (a : Option Addr) (n : Nat) (c : Nat) : Prop := w.heap[X]? = some (.cells #[.int .i64 kp, .int .i64 la, .int .i64 lim, .slice a n c] 46 (0, 0))
namespace DV
variable {w w' : World} {X R : Nat} {kp : Int} {la : Int} {lim : Int} {a : Option Addr} {n : Nat} {c : Nat}
theorem lt (h : DV w X kp la lim a n c) : X < w.heap.size := (Array.getElem?_eq_some_iff.1 h).1
theorem cells (h : DV w X kp la lim a n c) : w.cell? ⟨X, 0, none⟩ = some (.int .i64 kp) ∧ w.cell? ⟨X, 1, none⟩ = some (.int .i64 la) ∧ w.cell? ⟨X, 2, none⟩ = some (.int .i64 lim) ∧ w.cell? ⟨X, 3, none⟩ = some (.slice a n c) ∧ w.frozen? ⟨X, 0, none⟩ = false ∧ w.frozen? ⟨X, 1, none⟩ = false ∧ w.frozen? ⟨X, 2, none⟩ = false ∧ w.frozen? ⟨X, 3, none⟩ = false := by
  have h' : w.heap[X]? = some (.cells #[.int .i64 kp, .int .i64 la, .int .i64 lim, .slice a n c] 46 (0, 0)) := h
  refine ⟨?_, ?_, ?_, ?_, ?_, ?_, ?_, ?_⟩
  all_goals first
    | (simp [World.cell?, h'])
    | (simp [World.frozen?, h'])
theorem below (h : DV w X kp la lim a n c) {B : Nat} (hb : Below B w w') (hX : X < B) : DV w' X kp la lim a n c := (hb.block X hX).trans h
theorem but (h : DV w X kp la lim a n c) (hb : But1 R w w') (hne : X ≠ R) : DV w' X kp la lim a n c := (hb.block X h.lt hne).trans h
theorem new (w : World) (kp : Int) (la : Int) (lim : Int) (a : Option Addr) (n : Nat) (c : Nat) : DV (w.alloc (.cells #[.int .i64 kp, .int .i64 la, .int .i64 lim, .slice a n c] 46)) w.heap.size kp la lim a n c := Go.Deep.blk_alloc_new _ _
theorem keep (h : DV w X kp la lim a n c) (o : Obj) : DV (w.alloc o) X kp la lim a n c := h.below (bel1 w o) h.lt
theorem set0 (h : DV w X kp la lim a n c) (kp' : Int) : DV (w.setCell ⟨X, 0, none⟩ (.int .i64 kp')) X kp' la lim a n c := v_set (j := 0) h
theorem set1 (h : DV w X kp la lim a n c) (la' : Int) : DV (w.setCell ⟨X, 1, none⟩ (.int .i64 la')) X kp la' lim a n c := v_set (j := 1) h
theorem set2 (h : DV w X kp la lim a n c) (lim' : Int) : DV (w.setCell ⟨X, 2, none⟩ (.int .i64 lim')) X kp la lim' a n c := v_set (j := 2) h
theorem set3 (h : DV w X kp la lim a n c) (a' : Option Addr) (n' : Nat) (c' : Nat) : DV (w.setCell ⟨X, 3, none⟩ (.slice a' n' c')) X kp la lim a' n' c' := v_set (j := 3) h
theorem store (h : DV w X kp la lim a n c) (kp' : Int) (la' : Int) (lim' : Int) (a' : Option Addr) (n' : Nat) (c' : Nat) : DV ((((w.setCell ⟨X, 0, none⟩ (.int .i64 kp')).setCell ⟨X, 1, none⟩ (.int .i64 la')).setCell ⟨X, 2, none⟩ (.int .i64 lim')).setCell ⟨X, 3, none⟩ (.slice a' n' c')) X kp' la' lim' a' n' c' := ((((h.set0 kp').set1 la').set2 lim').set3 a' n' c')
theorem store_but (h : DV w X kp la lim a n c) (kp' : Int) (la' : Int) (lim' : Int) (a' : Option Addr) (n' : Nat) (c' : Nat) : But1 X w ((((w.setCell ⟨X, 0, none⟩ (.int .i64 kp')).setCell ⟨X, 1, none⟩ (.int .i64 la')).setCell ⟨X, 2, none⟩ (.int .i64 lim')).setCell ⟨X, 3, none⟩ (.slice a' n' c')) := (((((But1.refl X w).trans (But1.set _ X 0 _)).trans (But1.set _ X 1 _)).trans (But1.set _ X 2 _)).trans (But1.set _ X 3 _))
theorem load (h : DV w X kp la lim a n c) : (loadVar 46 ⟨X, 0, none⟩).run Tryz.prog w = .ok (.agg #[.int .i64 kp, .int .i64 la, .int .i64 lim, .slice a n c]) w := by
  obtain ⟨c0, c1, c2, c3, -⟩ := h.cells
  clear h
  go_simp
end DV
/-- Block X is a variable of that type. -/
def RV (w : World) (X : Nat) (ty : Int) (g : Int) (a : Option Addr) (n : Nat) (c : Nat) : Prop := w.heap[X]? = some (.cells #[.int .u8 ty, .int .u32 g, .slice a n c] 102 (0, 0))
namespace RV
variable {w w' : World} {X R : Nat} {ty : Int} {g : Int} {a : Option Addr} {n : Nat} {c : Nat}
theorem lt (h : RV w X ty g a n c) : X < w.heap.size := (Array.getElem?_eq_some_iff.1 h).1
theorem cells (h : RV w X ty g a n c) : w.cell? ⟨X, 0, none⟩ = some (.int .u8 ty) ∧ w.cell? ⟨X, 1, none⟩ = some (.int .u32 g) ∧ w.cell? ⟨X, 2, none⟩ = some (.slice a n c) ∧ w.frozen? ⟨X, 0, none⟩ = false ∧ w.frozen? ⟨X, 1, none⟩ = false ∧ w.frozen? ⟨X, 2, none⟩ = false := by
  have h' : w.heap[X]? = some (.cells #[.int .u8 ty, .int .u32 g, .slice a n c] 102 (0, 0)) := h
  refine ⟨?_, ?_, ?_, ?_, ?_, ?_⟩
  all_goals first
    | (simp [World.cell?, h'])
    | (simp [World.frozen?, h'])
theorem below (h : RV w X ty g a n c) {B : Nat} (hb : Below B w w') (hX : X < B) : RV w' X ty g a n c := (hb.block X hX).trans h
theorem but (h : RV w X ty g a n c) (hb : But1 R w w') (hne : X ≠ R) : RV w' X ty g a n c := (hb.block X h.lt hne).trans h
theorem new (w : World) (ty : Int) (g : Int) (a : Option Addr) (n : Nat) (c : Nat) : RV (w.alloc (.cells #[.int .u8 ty, .int .u32 g, .slice a n c] 102)) w.heap.size ty g a n c := Go.Deep.blk_alloc_new _ _
theorem keep (h : RV w X ty g a n c) (o : Obj) : RV (w.alloc o) X ty g a n c := h.below (bel1 w o) h.lt
theorem set0 (h : RV w X ty g a n c) (ty' : Int) : RV (w.setCell ⟨X, 0, none⟩ (.int .u8 ty')) X ty' g a n c := v_set (j := 0) h
theorem set1 (h : RV w X ty g a n c) (g' : Int) : RV (w.setCell ⟨X, 1, none⟩ (.int .u32 g')) X ty g' a n c := v_set (j := 1) h
theorem set2 (h : RV w X ty g a n c) (a' : Option Addr) (n' : Nat) (c' : Nat) : RV (w.setCell ⟨X, 2, none⟩ (.slice a' n' c')) X ty g a' n' c' := v_set (j := 2) h
theorem store (h : RV w X ty g a n c) (ty' : Int) (g' : Int) (a' : Option Addr) (n' : Nat) (c' : Nat) : RV (((w.setCell ⟨X, 0, none⟩ (.int .u8 ty')).setCell ⟨X, 1, none⟩ (.int .u32 g')).setCell ⟨X, 2, none⟩ (.slice a' n' c')) X ty' g' a' n' c' := (((h.set0 ty').set1 g').set2 a' n' c')
theorem store_but (h : RV w X ty g a n c) (ty' : Int) (g' : Int) (a' : Option Addr) (n' : Nat) (c' : Nat) : But1 X w (((w.setCell ⟨X, 0, none⟩ (.int .u8 ty')).setCell ⟨X, 1, none⟩ (.int .u32 g')).setCell ⟨X, 2, none⟩ (.slice a' n' c')) := ((((But1.refl X w).trans (But1.set _ X 0 _)).trans (But1.set _ X 1 _)).trans (But1.set _ X 2 _))
theorem load (h : RV w X ty g a n c) : (loadVar 102 ⟨X, 0, none⟩).run Tryz.prog w = .ok (.agg #[.int .u8 ty, .int .u32 g, .slice a n c]) w := by
  obtain ⟨c0, c1, c2, -⟩ := h.cells
  clear h
  go_simp
end RV
/-- Block X is a variable of that type. -/
def TV (w : World) (X : Nat) (kp : Int) (la : Int) : Prop := w.heap[X]? = some (.cells #[.int .i64 kp, .int .i64 la] 23 (0, 0))
namespace TV
variable {w w' : World} {X R : Nat} {kp : Int} {la : Int}
theorem lt (h : TV w X kp la) : X < w.heap.size := (Array.getElem?_eq_some_iff.1 h).1
theorem cells (h : TV w X kp la) : w.cell? ⟨X, 0, none⟩ = some (.int .i64 kp) ∧ w.cell? ⟨X, 1, none⟩ = some (.int .i64 la) ∧ w.frozen? ⟨X, 0, none⟩ = false ∧ w.frozen? ⟨X, 1, none⟩ = false := by
  have h' : w.heap[X]? = some (.cells #[.int .i64 kp, .int .i64 la] 23 (0, 0)) := h
  refine ⟨?_, ?_, ?_, ?_⟩
  all_goals first
    | (simp [World.cell?, h'])
    | (simp [World.frozen?, h'])
theorem below (h : TV w X kp la) {B : Nat} (hb : Below B w w') (hX : X < B) : TV w' X kp la := (hb.block X hX).trans h
theorem but (h : TV w X kp la) (hb : But1 R w w') (hne : X ≠ R) : TV w' X kp la := (hb.block X h.lt hne).trans h
theorem new (w : World) (kp : Int) (la : Int) : TV (w.alloc (.cells #[.int .i64 kp, .int .i64 la] 23)) w.heap.size kp la := Go.Deep.blk_alloc_new _ _
theorem keep (h : TV w X kp la) (o : Obj) : TV (w.alloc o) X kp la := h.below (bel1 w o) h.lt
theorem set0 (h : TV w X kp la) (kp' : Int) : TV (w.setCell ⟨X, 0, none⟩ (.int .i64 kp')) X kp' la := v_set (j := 0) h
theorem set1 (h : TV w X kp la) (la' : Int) : TV (w.setCell ⟨X, 1, none⟩ (.int .i64 la')) X kp la' := v_set (j := 1) h
theorem store (h : TV w X kp la) (kp' : Int) (la' : Int) : TV ((w.setCell ⟨X, 0, none⟩ (.int .i64 kp')).setCell ⟨X, 1, none⟩ (.int .i64 la')) X kp' la' := ((h.set0 kp').set1 la')
theorem store_but (h : TV w X kp la) (kp' : Int) (la' : Int) : But1 X w ((w.setCell ⟨X, 0, none⟩ (.int .i64 kp')).setCell ⟨X, 1, none⟩ (.int .i64 la')) := (((But1.refl X w).trans (But1.set _ X 0 _)).trans (But1.set _ X 1 _))
theorem load (h : TV w X kp la) : (loadVar 23 ⟨X, 0, none⟩).run Tryz.prog w = .ok (.agg #[.int .i64 kp, .int .i64 la]) w := by
  obtain ⟨c0, c1, -⟩ := h.cells
  clear h
  go_simp
end TV
/-- Block X is a variable of that type. -/
def LV (w : World) (X : Nat) (a : Option Addr) (n : Nat) (c : Nat) : Prop := w.heap[X]? = some (.cells #[.slice a n c] 44 (0, 0))
namespace LV
variable {w w' : World} {X R : Nat} {a : Option Addr} {n : Nat} {c : Nat}
theorem lt (h : LV w X a n c) : X < w.heap.size := (Array.getElem?_eq_some_iff.1 h).1
theorem cells (h : LV w X a n c) : w.cell? ⟨X, 0, none⟩ = some (.slice a n c) ∧ w.frozen? ⟨X, 0, none⟩ = false := by
  have h' : w.heap[X]? = some (.cells #[.slice a n c] 44 (0, 0)) := h
  refine ⟨?_, ?_⟩
  all_goals first
    | (simp [World.cell?, h'])
    | (simp [World.frozen?, h'])
theorem below (h : LV w X a n c) {B : Nat} (hb : Below B w w') (hX : X < B) : LV w' X a n c := (hb.block X hX).trans h
theorem but (h : LV w X a n c) (hb : But1 R w w') (hne : X ≠ R) : LV w' X a n c := (hb.block X h.lt hne).trans h
theorem new (w : World) (a : Option Addr) (n : Nat) (c : Nat) : LV (w.alloc (.cells #[.slice a n c] 44)) w.heap.size a n c := Go.Deep.blk_alloc_new _ _
theorem keep (h : LV w X a n c) (o : Obj) : LV (w.alloc o) X a n c := h.below (bel1 w o) h.lt
theorem set0 (h : LV w X a n c) (a' : Option Addr) (n' : Nat) (c' : Nat) : LV (w.setCell ⟨X, 0, none⟩ (.slice a' n' c')) X a' n' c' := v_set (j := 0) h
theorem store (h : LV w X a n c) (a' : Option Addr) (n' : Nat) (c' : Nat) : LV (w.setCell ⟨X, 0, none⟩ (.slice a' n' c')) X a' n' c' := (h.set0 a' n' c')
theorem store_but (h : LV w X a n c) (a' : Option Addr) (n' : Nat) (c' : Nat) : But1 X w (w.setCell ⟨X, 0, none⟩ (.slice a' n' c')) := ((But1.refl X w).trans (But1.set _ X 0 _))
theorem load (h : LV w X a n c) : (loadVar 44 ⟨X, 0, none⟩).run Tryz.prog w = .ok (.slice a n c) w := by
  obtain ⟨c0, -⟩ := h.cells
  clear h
  go_simp
end LV
theorem ret_cell9 {P : Program} {fn : Func} {R : Ending → World → Prop} {a : Act} {w : World} {p : Nat} {ty : TypeId} {q : Addr} {x : Value} (hr : fn.results = #[.cell p ty]) (hd : a.defers = []) (hp : a.tmps.getD p undef = .pointer (some q))
    (hl : (loadVar ty q).run P w = .ok x w) (hR : R (.returned x) w) : bodyPost P fn R .ret a w := ret_cell1 hr hd hp hl hR
theorem mkKeyW (w : World) (po v1 v2 g : Int) (ex : Bool) (left : Int) (a : Option Addr) (n c : Nat) (W : World)
    (hW : W = ((w.alloc (.cells #[.int .i64 po, .int .i64 v1, .int .i64 v2, .int .u32 g, .bool ex, .int .i64 left, .slice a n c] 77)).alloc (.cells #[.int .i64 po, .int .u32 g] 118))) :
    PV W w.heap.size po v1 v2 g ex left a n c ∧ KV W (w.heap.size + 1) po g ∧ Below w.heap.size w W ∧ W.heap.size = w.heap.size + 2 := by
  subst hW
  have e0 : w.heap.size = w.heap.size := rfl
  have e1 : (w.alloc (.cells #[.int .i64 po, .int .i64 v1, .int .i64 v2, .int .u32 g, .bool ex, .int .i64 left, .slice a n c] 77)).heap.size = w.heap.size + 1 := by rw [World.size_alloc]
  have e2 : ((w.alloc (.cells #[.int .i64 po, .int .i64 v1, .int .i64 v2, .int .u32 g, .bool ex, .int .i64 left, .slice a n c] 77)).alloc (.cells #[.int .i64 po, .int .u32 g] 118)).heap.size = w.heap.size + 2 := by rw [World.size_alloc, e1]
  have u0 := PV.new w po v1 v2 g ex left a n c
  have u1 := KV.new (w.alloc (.cells #[.int .i64 po, .int .i64 v1, .int .i64 v2, .int .u32 g, .bool ex, .int .i64 left, .slice a n c] 77)) po g
  rw [e1] at u1
  exact ⟨(u0.keep _), u1, (((Below.refl _ w).alloc (by exact Nat.le_refl _) _).alloc (by rw [e1]; omega) _), e2⟩
set_option maxRecDepth 100000 in
set_option maxHeartbeats 4000000 in
theorem dKeyOf (po v1 v2 g : Int) (ex : Bool) (left : Int) (a : Option Addr) (n c : Nat) (w : World) :
    Calls Tryz.prog 91 #[.agg #[.int .i64 po, .int .i64 v1, .int .i64 v2, .int .u32 g, .bool ex, .int .i64 left, .slice a n c]] w fun e w' => e = .returned (.agg #[.int .i64 po, .int .u32 g]) ∧ Below w.heap.size w w' := by
  obtain ⟨w2, hw2⟩ : ∃ w2, w2 = (w.alloc (.cells #[.int .i64 po, .int .i64 v1, .int .i64 v2, .int .u32 g, .bool ex, .int .i64 left, .slice a n c] 77)).alloc (.cells #[.int .i64 po, .int .u32 g] 118) := ⟨_, rfl⟩
  obtain ⟨hv0, hv1, hb, -⟩ := mkKeyW w po v1 v2 g ex left a n c w2 hw2
  have V1 := Lib.hid hv1
  have HB := Lib.hid hb
  clear hv0 hv1 hb
  go_enter Tryz.func91, Tryz.ntmps91
  go_wp2_with fail
  rw [← hw2]
  refine ret_cell9 (p := 2) rfl rfl rfl V1.out.load ?_
  exact ⟨rfl, HB.out⟩
set_option maxRecDepth 100000 in
set_option maxHeartbeats 4000000 in
theorem dKLess (p g q h : Int) (w : World) (h1 : 0 ≤ g ∧ g ≤ 4294967295) (h2 : 0 ≤ h ∧ h ≤ 4294967295) :
    Calls Tryz.prog 97 #[.agg #[.int .i64 p, .int .u32 g], .agg #[.int .i64 q, .int .u32 h]] w fun e w' => e = .returned (.bool (decide (p * 4294967296 + g < q * 4294967296 + h))) ∧ Below w.heap.size w w' := by
  by_cases e : p = q
  · have HE : Hid (decide (p * 4294967296 + g < q * 4294967296 + h) = decide (g < h)) := Lib.hid (decide_eq_decide.2 (by omega))
    have e' : (p == q) = true := by simpa using e
    clear e h1 h2
    go_enter Tryz.func97, Tryz.ntmps97
    go_wp2
    go_ret
    exact ⟨ret_bool HE.out.symm, bel2 w _ _⟩
  · have HE : Hid (decide (p * 4294967296 + g < q * 4294967296 + h) = decide (p < q)) := Lib.hid (decide_eq_decide.2 (by omega))
    have e' : (p == q) = false := by simpa using e
    clear e h1 h2
    go_enter Tryz.func97, Tryz.ntmps97
    go_wp2
    go_ret
    exact ⟨ret_bool HE.out.symm, bel2 w _ _⟩
def fiV (B I b off n c ii : Nat) (po g po1 v1 v2 g1 : Int) (ex : Bool) (left : Int) (a1 : Option Addr) (n1 c1 : Nat) (bb : Bool) : Nat → Value → List Value → World → Prop
  | 0, v, _, _ => v = .slice (some ⟨b, off, none⟩) n c
  | 1, v, _, _ => v = .int .i64 (ii : Int)
  | 2, v, _, _ => v = .pointer (some ⟨b, off + ii * 7, none⟩)
  | 3, v, _, _ => v = .agg #[.int .i64 po1, .int .i64 v1, .int .i64 v2, .int .u32 g1, .bool ex, .int .i64 left, .slice a1 n1 c1]
  | 4, v, _, _ => v = .agg #[.int .i64 po1, .int .u32 g1]
  | 5, v, _, _ => v = .agg #[.int .i64 po, .int .u32 g]
  | 6, v, _, _ => v = .bool bb
  | 7, v, _, _ => v = .bool (!bb)
  | 8, v, _, _ => v = .bool (!bb)
  | _, _, _, _ => True
def fiD : Nat → List Nat
  | 2 => [0, 1]
  | 3 => [2]
  | 4 => [3]
  | 6 => [4, 5]
  | 7 => [6]
  | 8 => [7]
  | _ => []
theorem fi_st (B I b off n c ii : Nat) (po g po1 v1 v2 g1 : Int) (ex : Bool) (left : Int) (a1 : Option Addr) (n1 c1 : Nat) (bb : Bool) {i : Nat} {v : Value} {us : List Value} {w w' : World}  (hr : Below w.heap.size w w') (hv : fiV B I b off n c ii po g po1 v1 v2 g1 ex left a1 n1 c1 bb i v us w) : fiV B I b off n c ii po g po1 v1 v2 g1 ex left a1 n1 c1 bb i v us w' := by
  unfold fiV at hv ⊢
  split at hv
  all_goals first
    | exact hv
set_option maxRecDepth 100000 in
set_option maxHeartbeats 4000000 in
theorem dFindC (B I b off n c ii : Nat) (l : List Plc) (po g : Int) (w : World) (hx : l.length = n) (hi : ii < n) (hn : n ≤ 1000000) (hb : LV w B (some ⟨b, off, none⟩) n c) (hK : KV w I po g) (hg : 0 ≤ g ∧ g ≤ 4294967295)
    (hc : ∀ (k : Nat) p, l[k]? = some p → PAt w b (off + k * 7) p) :
    Calls Tryz.prog 96 #[.int .i64 ii, .pointer (some ⟨B, 0, none⟩), .pointer (some ⟨I, 0, none⟩)] w fun e w' => e = .returned (.bool (decide (po * 4294967296 + g ≤ (ks l).getD ii 0))) ∧ Below w.heap.size w w' := by
  obtain ⟨p, hs⟩ : ∃ p, l[ii]? = some p := ⟨_, List.getElem?_eq_getElem (by omega)⟩
  rw [ks_at hs]
  obtain ⟨hce, hpo⟩ := hc ii p hs
  obtain ⟨po1, v1, v2, g1, ex, left, s1, a1, c1⟩ := p
  obtain ⟨n1, hn1⟩ : ∃ n1, s1.length = n1 := ⟨_, rfl⟩
  have CE := Lib.hid hce
  have HN1 := Lib.hid hn1
  have LB := Lib.hid hb
  have KB := Lib.hid hK
  have HG := Lib.hid hg
  have HG1 : Hid (0 ≤ g1 ∧ g1 ≤ 4294967295) := Lib.hid hpo.2.2.1
  obtain ⟨bb, hbb⟩ : ∃ bb, decide (po1 * 4294967296 + g1 < po * 4294967296 + g) = bb := ⟨_, rfl⟩
  have HBB := Lib.hid hbb
  have HRES : Hid (Ending.returned (.bool (!bb)) = .returned (.bool (decide (po * 4294967296 + g ≤ (Plc.k ⟨po1, v1, v2, g1, ex, left, s1, a1, c1⟩))))) := Lib.hid (ret_bool (by
    rw [← hbb, ← decide_not]
    exact decide_eq_decide.2 (by simp only [Plc.k]; omega)))
  have i0 : (0 : Int) ≤ (ii : Int) := by omega
  have i1 : (ii : Int) < (n : Int) := by omega
  clear hc hs hce hpo hb hK hg hbb hn1 hx
  go_enter Tryz.func96, Tryz.ntmps96
  go_wp2_with fail
  refine wp_region_each3 (fiV B I b off n c ii po g po1 v1 v2 g1 ex left a1 n1 c1 bb) (fun W => Below w.heap.size w W) (fun _ A B => Below A.heap.size A B) fiD [5, 6, 7, 8, 9, 10, 11, 12, 4] (by kernel_rfl) (by kernel_rfl) (by kernel_rfl) (Below.refl _ w).drew
    (fun i j oi oj v us A B hoi hoj hij hw hSA hr hv => fi_st _ _ _ _ _ _ _ _ _ _ _ _ _ _ _ _ _ _ _ hr hv) ?hgd
    ⟨?_, ?_, ?_, ?_, ?_, ?_, ?_, ?_, ?_, trivial⟩ ?hend
  case hgd =>
    intro i o g b hoi hog v us w hv
    have hi : i < 9 := (Array.getElem?_eq_some_iff.1 hoi).1
    have hc : i = 0 ∨ i = 1 ∨ i = 2 ∨ i = 3 ∨ i = 4 ∨ i = 5 ∨ i = 6 ∨ i = 7 ∨ i = 8 := by omega
    rcases hc with rfl | rfl | rfl | rfl | rfl | rfl | rfl | rfl | rfl
    · cases hoi; cases hog
    · cases hoi; cases hog
    · cases hoi; cases hog
    · cases hoi; cases hog
    · cases hoi; cases hog
    · cases hoi; cases hog
    · cases hoi; cases hog
    · cases hoi; cases hog
    · cases hoi; cases hog
  case refine_1 =>
    intro a' w9 hS h0 hd
    have e1 : a'.tmps[1]?.getD undef = .pointer (some ⟨B, 0, none⟩) := vev (h0 1 (by kernel_rfl))
    obtain ⟨y0, -⟩ := (LB.out.below hS LB.out.lt).cells
    refine Does2.value (.slice (some ⟨b, off, none⟩) n c) (w' := w9) ?_ ⟨rfl, hS, Below.refl _ _⟩
    clear hS h0 hd
    go_simp
  case refine_2 =>
    intro a' w9 hS h0 hd
    have e0 : a'.tmps[0]?.getD undef = .int .i64 (ii : Int) := vev (h0 0 (by kernel_rfl))
    refine Does2.value (.int .i64 (ii : Int)) (w' := w9) ?_ ⟨rfl, hS, Below.refl _ _⟩
    clear hS h0 hd
    go_simp
  case refine_3 =>
    intro a' w9 hS h0 hd
    have e5 : a'.tmps[5]?.getD undef = .slice (some ⟨b, off, none⟩) n c := vev (hd 0 List.mem_cons_self)
    have e6 : a'.tmps[6]?.getD undef = .int .i64 (ii : Int) := vev (hd 1 (List.mem_cons_of_mem _ List.mem_cons_self))
    refine Does2.value (.pointer (some ⟨b, off + ii * 7, none⟩)) (w' := w9) ?_ ⟨rfl, hS, Below.refl _ _⟩
    clear hS h0 hd
    go_simp
  case refine_4 =>
    intro a' w9 hS h0 hd
    have e7 : a'.tmps[7]?.getD undef = .pointer (some ⟨b, off + ii * 7, none⟩) := vev (hd 2 List.mem_cons_self)
    have ce := CE.out.below hS
    unfold PCs Plc.sl at ce
    simp only [HN1.out] at ce
    obtain ⟨y0, y1, y2, y3, y4, y5, y6⟩ := ce
    refine Does2.value (.agg #[.int .i64 po1, .int .i64 v1, .int .i64 v2, .int .u32 g1, .bool ex, .int .i64 left, .slice a1 n1 c1]) (w' := w9) ?_ ⟨rfl, hS, Below.refl _ _⟩
    clear hS h0 hd
    go_simp
  case refine_5 =>
    intro a' w9 hS h0 hd
    have e8 : a'.tmps[8]?.getD undef = .agg #[.int .i64 po1, .int .i64 v1, .int .i64 v2, .int .u32 g1, .bool ex, .int .i64 left, .slice a1 n1 c1] := vev (hd 3 List.mem_cons_self)
    refine Does2.call 91 #[.agg #[.int .i64 po1, .int .i64 v1, .int .i64 v2, .int .u32 g1, .bool ex, .int .i64 left, .slice a1 n1 c1]] (w' := w9) ?_ ((dKeyOf po1 v1 v2 g1 ex left a1 n1 c1 w9).mono ?_)
    · clear hS h0 hd
      go_simp
    · rintro e w8 ⟨rfl, hb⟩
      exact ⟨_, rfl, rfl, hS.trans (hb.mono hS.size), hb⟩
  case refine_6 =>
    intro a' w9 hS h0 hd
    have e2 : a'.tmps[2]?.getD undef = .pointer (some ⟨I, 0, none⟩) := vev (h0 2 (by kernel_rfl))
    obtain ⟨y0, y1, -⟩ := (KB.out.below hS KB.out.lt).cells
    refine Does2.value (.agg #[.int .i64 po, .int .u32 g]) (w' := w9) ?_ ⟨rfl, hS, Below.refl _ _⟩
    clear hS h0 hd
    go_simp
  case refine_7 =>
    intro a' w9 hS h0 hd
    have e9 : a'.tmps[9]?.getD undef = .agg #[.int .i64 po1, .int .u32 g1] := vev (hd 4 List.mem_cons_self)
    have e10 : a'.tmps[10]?.getD undef = .agg #[.int .i64 po, .int .u32 g] := vev (hd 5 (List.mem_cons_of_mem _ List.mem_cons_self))
    refine Does2.call 97 #[.agg #[.int .i64 po1, .int .u32 g1], .agg #[.int .i64 po, .int .u32 g]] (w' := w9) ?_ ((dKLess po1 g1 po g w9 HG1.out HG.out).mono ?_)
    · clear hS h0 hd
      go_simp
    · rw [HBB.out]
      rintro e w8 ⟨rfl, hb⟩
      exact ⟨_, rfl, rfl, hS.trans (hb.mono hS.size), hb⟩
  case refine_8 =>
    intro a' w9 hS h0 hd
    have e11 : a'.tmps[11]?.getD undef = .bool bb := vev (hd 6 List.mem_cons_self)
    refine Does2.value (.bool (!bb)) (w' := w9) ?_ ⟨rfl, hS, Below.refl _ _⟩
    clear hS h0 hd
    go_simp
  case refine_9 =>
    intro a' w9 hS h0 hd
    have e12 : a'.tmps[12]?.getD undef = .bool (!bb) := vev (hd 7 List.mem_cons_self)
    refine Does2.value (.bool (!bb)) (w' := w9) ?_ ⟨rfl, hS, Below.refl _ _⟩
    clear hS h0 hd
    go_simp
  case hend =>
    intro f w9 hS hv
    have v4 := hv 8 (by decide)
    replace v4 : f 4 = .bool (!bb) := v4
    simp only [putAll, Act.put, List.setIfInBounds_toArray, List.set_cons_zero, List.set_cons_succ, v4]
    go_wp2_with fail
    go_ret
    exact ⟨HRES.out, hS⟩
set_option maxRecDepth 100000 in
set_option maxHeartbeats 4000000 in
set_option maxHeartbeats 2000000 in
theorem dSearch (B I n c : Nat) (a : Option Addr) (ss : List Plc) (po g : Int) (w : World) (hx : ss.length = n) (hn : n ≤ 1000000) (hr : Ris9 ss) (hb : LV w B a n c) (hI : KV w I po g) (hg : 0 ≤ g ∧ g ≤ 4294967295)
    (hc : Pls w a ss) :
    Calls Tryz.prog 95 #[.int .i64 n, .func (.func 96) #[] #[.pointer (some ⟨B, 0, none⟩), .pointer (some ⟨I, 0, none⟩)]] w fun e w' =>
      ∃ k : Nat, e = .returned (.int .i64 k) ∧ k ≤ n ∧ (∀ j, j < k → (ks ss).getD j 0 < po * 4294967296 + g) ∧ (∀ j, k ≤ j → j < n → po * 4294967296 + g ≤ (ks ss).getD j 0) ∧ Below w.heap.size w w' := by
  have mono : Hid (∀ i j, i < j → j < n → (ks ss).getD i 0 < (ks ss).getD j 0) := Lib.hid (fun i j hij hj => by
    unfold Ris9 at hr
    rw [List.pairwise_iff_getElem] at hr
    have := hr i j (by omega) (by omega) hij
    rw [ks_at (List.getElem?_eq_getElem (by omega : i < ss.length)), ks_at (List.getElem?_eq_getElem (by omega : j < ss.length))]
    exact this)
  have HL : Hid (∀ (i : Nat) w1, i < n → Below w.heap.size w w1 → Calls Tryz.prog 96 #[.int .i64 i, .pointer (some ⟨B, 0, none⟩), .pointer (some ⟨I, 0, none⟩)] w1 fun e w' => e = .returned (.bool (decide (po * 4294967296 + g ≤ (ks ss).getD i 0))) ∧ Below w1.heap.size w1 w') :=
    Lib.hid (fun i w1 hi hb1 => by
      obtain ⟨b, off, rfl, hcc⟩ := hc.at (k := i) (by omega)
      exact dFindC B I b off n c i ss po g w1 hx hi hn (hb.below hb1 hb.lt) (hI.below hb1 hI.lt) hg fun k s hk => (hcc k s hk).below hb1)
  clear hx hb hI hc hr hg
  go_enter Tryz.func95, Tryz.ntmps95
  go_wp2
  go_loopw [5, 6] (fun v5 v6 wr => ∃ i j : Nat, v5 = .int .i64 (i : Int) ∧ v6 = .int .i64 (j : Int) ∧ i ≤ j ∧ j ≤ n ∧ (∀ k, k < i → (ks ss).getD k 0 < po * 4294967296 + g) ∧ (∀ k, j ≤ k → k < n → po * 4294967296 + g ≤ (ks ss).getD k 0) ∧ Below w.heap.size w wr) (fun v5 v6 _ => (intOf v6).toNat - (intOf v5).toNat)
  case atStart => exact ⟨0, n, rfl, rfl, by omega, by omega, fun k hk => absurd hk (by omega), fun k h1 h2 => absurd h1 (by omega), Below.refl _ _⟩
  case round =>
    obtain ⟨i, j, rfl, rfl, hij, hj, hlo, hhi, hB⟩ := hrel
    have HLO := Lib.hid hlo
    have HHI := Lib.hid hhi
    have HB := Lib.hid hB
    clear hlo hhi hB
    by_cases hlt : i < j
    · have hijz : (i : Int) < (j : Int) := by omega
      obtain ⟨m, hm⟩ : ∃ m : Nat, ((i : Int) + (j : Int)) / 2 = (m : Int) := ⟨(i + j) / 2, by omega⟩
      have h1 : i ≤ m ∧ m < j := by omega
      have HM := Lib.hid hm
      clear hm
      go_wp2_with fail
      rw [HM.out]
      refine (HL.out m wr (by omega) HB.out).mono ?_
      rintro e w2 ⟨rfl, hb2⟩
      have HB2 := Lib.hid (HB.out.trans (hb2.mono HB.out.size))
      clear hb2
      by_cases hp : po * 4294967296 + g ≤ (ks ss).getD m 0
      · have HP := Lib.hid hp
        rw [decide_eq_true hp]
        clear hp
        go_wp2_with fail
        go_roundw
        case rel => exact ⟨i, m, rfl, rfl, by omega, by omega, HLO.out, fun k hk1 hk2 => by
          have h2 := HP.out
          rcases Nat.lt_or_ge m k with h3 | h3
          · have := mono.out m k h3 hk2; omega
          · have e : k = m := by omega
            rw [e]; exact h2, HB2.out⟩
        case measure => simp [intOf]; omega
      · have HP := Lib.hid hp
        rw [decide_eq_false hp]
        clear hp
        go_wp2_with fail
        go_roundw
        case rel => exact ⟨m + 1, j, by go_num, rfl, by omega, by omega, fun k hk1 => by
          have h2 := HP.out
          rcases Nat.lt_or_ge k m with h3 | h3
          · have := mono.out k m h3 (by omega); omega
          · have e : k = m := by omega
            rw [e]; omega, HHI.out, HB2.out⟩
        case measure => simp [intOf]; omega
    · obtain rfl : i = j := by omega
      go_wp2_with fail
      go_ret
      exact ⟨i, rfl, hj, HLO.out, HHI.out, HB.out⟩
theorem mkFindW (w : World) (a : Option Addr) (n c : Nat) (po g : Int) (W : World)
    (hW : W = ((w.alloc (.cells #[.slice a n c] 44)).alloc (.cells #[.int .i64 po, .int .u32 g] 118))) :
    LV W w.heap.size a n c ∧ KV W (w.heap.size + 1) po g ∧ Below w.heap.size w W ∧ W.heap.size = w.heap.size + 2 := by
  subst hW
  have e0 : w.heap.size = w.heap.size := rfl
  have e1 : (w.alloc (.cells #[.slice a n c] 44)).heap.size = w.heap.size + 1 := by rw [World.size_alloc]
  have e2 : ((w.alloc (.cells #[.slice a n c] 44)).alloc (.cells #[.int .i64 po, .int .u32 g] 118)).heap.size = w.heap.size + 2 := by rw [World.size_alloc, e1]
  have u0 := LV.new w a n c
  have u1 := KV.new (w.alloc (.cells #[.slice a n c] 44)) po g
  rw [e1] at u1
  exact ⟨(u0.keep _), u1, (((Below.refl _ w).alloc (by exact Nat.le_refl _) _).alloc (by rw [e1]; omega) _), e2⟩
end Go.Proofs.YtiabbkjmgaemaaaGreat
/- find: where the place of a key is, or would be. -/
namespace Go.Proofs.YtiabbkjmgaemaaaGreat
set_option linter.unusedVariables false
open Go.RowKit

def faV (N : Nat) (a : Option Addr) (b off n c k : Nat) (po g po1 v1 v2 g1 : Int) (ex : Bool) (left : Int) (a1 : Option Addr) (n1 c1 : Nat) (bb : Bool) : Nat → Value → List Value → World → Prop
  | 0, v, _, _ => v = .int .i64 (k : Int)
  | 1, v, _, _ => v = .int .i64 (k : Int)
  | 2, v, _, _ => v = .slice a n c
  | 3, v, _, _ => v = .int .i64 (n : Int)
  | 4, v, _, _ => v = .bool true
  | 5, v, _, _ => v = .bool true
  | 6, v, _, _ => v = .slice a n c
  | 7, v, _, _ => v = .int .i64 (k : Int)
  | 8, v, _, _ => v = .pointer (some ⟨b, off + k * 7, none⟩)
  | 9, v, _, _ => v = .agg #[.int .i64 po1, .int .i64 v1, .int .i64 v2, .int .u32 g1, .bool ex, .int .i64 left, .slice a1 n1 c1]
  | 10, v, _, _ => v = .agg #[.int .i64 po1, .int .u32 g1]
  | 11, v, _, _ => v = .agg #[.int .i64 po, .int .u32 g]
  | 12, v, _, _ => v = .bool bb
  | 13, v, _, _ => v = .bool bb
  | 14, v, _, _ => v = .int .i64 (k : Int)
  | 15, v, _, _ => v = .bool bb
  | _, _, _, _ => True
def faD : Nat → List Nat
  | 3 => [2]
  | 4 => [1, 3]
  | 5 => [4]
  | 6 => [5]
  | 7 => [5]
  | 8 => [6, 7, 5]
  | 9 => [8, 5]
  | 10 => [9, 5]
  | 11 => [5]
  | 12 => [10, 11, 5]
  | 13 => [5, 12]
  | 14 => [0]
  | 15 => [13]
  | _ => []
theorem fa_st (N : Nat) (a : Option Addr) (b off n c k : Nat) (po g po1 v1 v2 g1 : Int) (ex : Bool) (left : Int) (a1 : Option Addr) (n1 c1 : Nat) (bb : Bool) {i : Nat} {v : Value} {us : List Value} {w w' : World}  (hr : Below w.heap.size w w') (hv : faV N a b off n c k po g po1 v1 v2 g1 ex left a1 n1 c1 bb i v us w) : faV N a b off n c k po g po1 v1 v2 g1 ex left a1 n1 c1 bb i v us w' := by
  unfold faV at hv ⊢
  split at hv
  all_goals first
    | exact hv
def fbV (N : Nat) (a : Option Addr) (b off n c k : Nat) (po g po1 v1 v2 g1 : Int) (ex : Bool) (left : Int) (a1 : Option Addr) (n1 c1 : Nat) (bb : Bool) : Nat → Value → List Value → World → Prop
  | 0, v, _, _ => v = .int .i64 (k : Int)
  | 1, v, _, _ => v = .int .i64 (k : Int)
  | 2, v, _, _ => v = .slice a n c
  | 3, v, _, _ => v = .int .i64 (n : Int)
  | 4, v, _, _ => v = .bool false
  | 5, v, _, _ => v = .bool false
  | 6, v, _, _ => v = undef
  | 7, v, _, _ => v = undef
  | 8, v, _, _ => v = undef
  | 9, v, _, _ => v = undef
  | 10, v, _, _ => v = undef
  | 11, v, _, _ => v = undef
  | 12, v, _, _ => v = undef
  | 13, v, _, _ => v = .bool false
  | 14, v, _, _ => v = .int .i64 (k : Int)
  | 15, v, _, _ => v = .bool false
  | _, _, _, _ => True
def fbD : Nat → List Nat
  | 3 => [2]
  | 4 => [1, 3]
  | 5 => [4]
  | 6 => [5]
  | 7 => [5]
  | 8 => [6, 7, 5]
  | 9 => [8, 5]
  | 10 => [9, 5]
  | 11 => [5]
  | 12 => [10, 11, 5]
  | 13 => [5, 12]
  | 14 => [0]
  | 15 => [13]
  | _ => []
def fbN (i : Nat) : Bool := !([6, 7, 8, 9, 10, 11, 12] : List Nat).contains i
theorem fb_st (N : Nat) (a : Option Addr) (b off n c k : Nat) (po g po1 v1 v2 g1 : Int) (ex : Bool) (left : Int) (a1 : Option Addr) (n1 c1 : Nat) (bb : Bool) {i : Nat} {v : Value} {us : List Value} {w w' : World}  (hr : Below w.heap.size w w') (hv : fbV N a b off n c k po g po1 v1 v2 g1 ex left a1 n1 c1 bb i v us w) : fbV N a b off n c k po g po1 v1 v2 g1 ex left a1 n1 c1 bb i v us w' := by
  unfold fbV at hv ⊢
  split at hv
  all_goals first
    | exact hv
set_option maxRecDepth 100000 in
set_option maxHeartbeats 4000000 in
theorem dFind (a : Option Addr) (n c : Nat) (l : List Plc) (po g : Int) (w : World) (hx : l.length = n) (hn : n ≤ 1000000) (hr : Ris9 l) (hH : Pls w a l) (hg : 0 ≤ g ∧ g ≤ 4294967295) :
    Calls Tryz.prog 56 #[.slice a n c, .agg #[.int .i64 po, .int .u32 g]] w fun e w' => (∃ (k : Nat) (b : Bool), e = .returned (.tuple #[.int .i64 k, .bool b]) ∧ Found9 (po * 4294967296 + g) l k b) ∧ Below w.heap.size w w' := by
  have HX := Lib.hid hx
  have HR := Lib.hid hr
  have HG := Lib.hid hg
  obtain ⟨w2, hw2⟩ : ∃ w2, w2 = (w.alloc (.cells #[.slice a n c] 44)).alloc (.cells #[.int .i64 po, .int .u32 g] 118) := ⟨_, rfl⟩
  obtain ⟨hl, hk, hb, -⟩ := mkFindW w a n c po g w2 hw2
  have LB := Lib.hid hl
  have KB := Lib.hid hk
  have HB := Lib.hid hb
  have HH := Lib.hid (hH.below hb)
  clear hx hr hg hl hk hb hH
  go_enter Tryz.func56, Tryz.ntmps56
  go_wp2_with fail
  rw [← hw2]
  clear hw2
  refine (dSearch w.heap.size (w.heap.size + 1) n c a l po g w2 HX.out hn HR.out LB.out KB.out HG.out HH.out).mono ?_
  rintro e w3 ⟨k, rfl, hk, hlo, hhi, hb⟩
  have hsp := split9 (po * 4294967296 + g) l k (by rw [HX.out]; exact hk) hlo (by rw [HX.out]; exact hhi)
  have SP := Lib.hid hsp.1
  have GT := Lib.hid (gt9 (po * 4294967296 + g) l HR.out k hsp.2)
  replace LB := Lib.hid (LB.out.below hb LB.out.lt)
  replace KB := Lib.hid (KB.out.below hb KB.out.lt)
  have HB3 := Lib.hid (HB.out.trans (hb.mono HB.out.size))
  replace HH := Lib.hid (HH.out.below hb)
  clear hlo hhi hb hsp HB
  have HA : Hid (∀ b : Bool, ((b = true ∧ ∃ p, l[k]? = some p ∧ p.k = po * 4294967296 + g) ∨ (b = false ∧ ∀ p, l[k]? = some p → p.k ≠ po * 4294967296 + g)) → ∀ w', Below w.heap.size w w' → (∃ (k' : Nat) (b' : Bool), Ending.returned (.tuple #[.int .i64 k, .bool b]) = .returned (.tuple #[.int .i64 k', .bool b']) ∧ Found9 (po * 4294967296 + g) l k' b') ∧ Below w.heap.size w w') := Lib.hid (by
    intro b hb w' hw
    refine ⟨⟨k, b, rfl, by rw [HX.out]; exact hk, SP.out, ?_⟩, hw⟩
    rcases hb with ⟨rfl, p, hp, e⟩ | ⟨rfl, h⟩
    · exact .inl ⟨rfl, ⟨p, hp, e⟩, GT.out.1 p hp e⟩
    · exact .inr ⟨rfl, no_k SP.out (GT.out.2 h), GT.out.2 h⟩)
  by_cases hlt : k < n
  · obtain ⟨b, off, rfl, hc⟩ := HH.out.at (k := k) (by rw [HX.out]; exact hlt)
    obtain ⟨p, hs⟩ : ∃ p, l[k]? = some p := ⟨_, List.getElem?_eq_getElem (by rw [HX.out]; exact hlt)⟩
    obtain ⟨hce, hpo⟩ := hc k p hs
    obtain ⟨po1, v1, v2, g1, ex, left, s1, a1, c1⟩ := p
    obtain ⟨n1, hn1⟩ : ∃ n1, s1.length = n1 := ⟨_, rfl⟩
    have CE := Lib.hid hce
    have HN1 := Lib.hid hn1
    have hg1 : 0 ≤ g1 ∧ g1 ≤ 4294967295 := hpo.2.2.1
    obtain ⟨x1, q1⟩ : ∃ x1, (po1 == po) = x1 := ⟨_, rfl⟩
    obtain ⟨x2, q2⟩ : ∃ x2, (g1 == g) = x2 := ⟨_, rfl⟩
    obtain ⟨bb, hbb⟩ : ∃ bb, (x1 && x2) = bb := ⟨_, rfl⟩
    have HRES := Lib.hid (HA.out bb (by
      have hke := key_eq (p := po1) (q := po) hg1 HG.out
      cases bb
      · refine .inr ⟨rfl, fun p hp => ?_⟩
        rw [hs] at hp
        cases hp
        intro e
        have := hke.1 e
        rw [← q1, ← q2] at hbb
        simp [this.1, this.2] at hbb
      · refine .inl ⟨rfl, _, hs, hke.2 ?_⟩
        rw [← q1, ← q2] at hbb
        simpa using hbb))
    have HX12 := Lib.hid hbb
    have i0 : (0 : Int) ≤ (k : Int) := by omega
    have i1 : (k : Int) < (n : Int) := by omega
    have i2 : decide ((k : Int) < (n : Int)) = true := decide_eq_true i1
    clear hc hs hce hpo hn1 hbb hg1 HA HH
    go_wp2_with fail
    refine wp_region_each3 (faV w.heap.size (some ⟨b, off, none⟩) b off n c k po g po1 v1 v2 g1 ex left a1 n1 c1 bb) (fun W => Below w3.heap.size w3 W) (fun _ A B => Below A.heap.size A B) faD [11, 12, 13, 14, 15, 16, 17, 18, 19, 20, 21, 22, 23, 24, 4, 5] (by kernel_rfl) (by kernel_rfl) (by kernel_rfl) (Below.refl _ w3).drew
      (fun i j oi oj v us A B hoi hoj hij hw hSA hr hv => fa_st _ _ _ _ _ _ _ _ _ _ _ _ _ _ _ _ _ _ _ hr hv) ?hgd
      ⟨?_, ?_, ?_, ?_, ?_, ?_, ?_, ?_, ?_, ?_, ?_, ?_, ?_, ?_, ?_, ?_, trivial⟩ ?hend
    case hgd =>
      intro i o g b hoi hog v us w hv
      have hi : i < 16 := (Array.getElem?_eq_some_iff.1 hoi).1
      have hc : i = 0 ∨ i = 1 ∨ i = 2 ∨ i = 3 ∨ i = 4 ∨ i = 5 ∨ i = 6 ∨ i = 7 ∨ i = 8 ∨ i = 9 ∨ i = 10 ∨ i = 11 ∨ i = 12 ∨ i = 13 ∨ i = 14 ∨ i = 15 := by omega
      rcases hc with rfl | rfl | rfl | rfl | rfl | rfl | rfl | rfl | rfl | rfl | rfl | rfl | rfl | rfl | rfl | rfl
      · cases hoi; cases hog
      · cases hoi; cases hog
      · cases hoi; cases hog
      · cases hoi; cases hog
      · cases hoi; cases hog
      · cases hoi; cases hog
      · cases hoi; cases hog; exact hv
      · cases hoi; cases hog; exact hv
      · cases hoi; cases hog; exact hv
      · cases hoi; cases hog; exact hv
      · cases hoi; cases hog; exact hv
      · cases hoi; cases hog; exact hv
      · cases hoi; cases hog; exact hv
      · cases hoi; cases hog
      · cases hoi; cases hog
      · cases hoi; cases hog
    case refine_1 =>
      intro a' w9 hS h0 hd
      have e6 : a'.tmps[6]?.getD undef = .int .i64 (k : Int) := vev (h0 6 (by kernel_rfl))
      refine Does2.value (.int .i64 (k : Int)) (w' := w9) ?_ ⟨rfl, hS, Below.refl _ _⟩
      clear hS h0 hd
      go_simp
    case refine_2 =>
      intro a' w9 hS h0 hd
      have e6 : a'.tmps[6]?.getD undef = .int .i64 (k : Int) := vev (h0 6 (by kernel_rfl))
      refine Does2.value (.int .i64 (k : Int)) (w' := w9) ?_ ⟨rfl, hS, Below.refl _ _⟩
      clear hS h0 hd
      go_simp
    case refine_3 =>
      intro a' w9 hS h0 hd
      have e2 : a'.tmps[2]?.getD undef = .pointer (some ⟨w.heap.size, 0, none⟩) := vev (h0 2 (by kernel_rfl))
      obtain ⟨y0, -⟩ := (LB.out.below hS LB.out.lt).cells
      refine Does2.value (.slice (some ⟨b, off, none⟩) n c) (w' := w9) ?_ ⟨rfl, hS, Below.refl _ _⟩
      clear hS h0 hd
      go_simp
    case refine_4 =>
      intro a' w9 hS h0 hd
      have e13 : a'.tmps[13]?.getD undef = .slice (some ⟨b, off, none⟩) n c := vev (hd 2 List.mem_cons_self)
      refine Does2.value (.int .i64 (n : Int)) (w' := w9) ?_ ⟨rfl, hS, Below.refl _ _⟩
      clear hS h0 hd
      go_simp
    case refine_5 =>
      intro a' w9 hS h0 hd
      have e12 : a'.tmps[12]?.getD undef = .int .i64 (k : Int) := vev (hd 1 List.mem_cons_self)
      have e14 : a'.tmps[14]?.getD undef = .int .i64 (n : Int) := vev (hd 3 (List.mem_cons_of_mem _ List.mem_cons_self))
      refine Does2.value (.bool true) (w' := w9) ?_ ⟨rfl, hS, Below.refl _ _⟩
      clear hS h0 hd
      go_simp
    case refine_6 =>
      intro a' w9 hS h0 hd
      have e15 : a'.tmps[15]?.getD undef = .bool true := vev (hd 4 List.mem_cons_self)
      refine Does2.value (.bool true) (w' := w9) ?_ ⟨rfl, hS, Below.refl _ _⟩
      clear hS h0 hd
      go_simp
    case refine_7 =>
      intro a' w9 hS h0 hd
      have e2 : a'.tmps[2]?.getD undef = .pointer (some ⟨w.heap.size, 0, none⟩) := vev (h0 2 (by kernel_rfl))
      obtain ⟨y0, -⟩ := (LB.out.below hS LB.out.lt).cells
      refine Does2.value (.slice (some ⟨b, off, none⟩) n c) (w' := w9) ?_ ⟨rfl, hS, Below.refl _ _⟩
      clear hS h0 hd
      go_simp
    case refine_8 =>
      intro a' w9 hS h0 hd
      have e6 : a'.tmps[6]?.getD undef = .int .i64 (k : Int) := vev (h0 6 (by kernel_rfl))
      refine Does2.value (.int .i64 (k : Int)) (w' := w9) ?_ ⟨rfl, hS, Below.refl _ _⟩
      clear hS h0 hd
      go_simp
    case refine_9 =>
      intro a' w9 hS h0 hd
      have e17 : a'.tmps[17]?.getD undef = .slice (some ⟨b, off, none⟩) n c := vev (hd 6 List.mem_cons_self)
      have e18 : a'.tmps[18]?.getD undef = .int .i64 (k : Int) := vev (hd 7 (List.mem_cons_of_mem _ List.mem_cons_self))
      refine Does2.value (.pointer (some ⟨b, off + k * 7, none⟩)) (w' := w9) ?_ ⟨rfl, hS, Below.refl _ _⟩
      clear hS h0 hd
      go_simp
    case refine_10 =>
      intro a' w9 hS h0 hd
      have e19 : a'.tmps[19]?.getD undef = .pointer (some ⟨b, off + k * 7, none⟩) := vev (hd 8 List.mem_cons_self)
      have ce := CE.out.below hS
      unfold PCs Plc.sl at ce
      simp only [HN1.out] at ce
      obtain ⟨y0, y1, y2, y3, y4, y5, y6⟩ := ce
      refine Does2.value (.agg #[.int .i64 po1, .int .i64 v1, .int .i64 v2, .int .u32 g1, .bool ex, .int .i64 left, .slice a1 n1 c1]) (w' := w9) ?_ ⟨rfl, hS, Below.refl _ _⟩
      clear hS h0 hd
      go_simp
    case refine_11 =>
      intro a' w9 hS h0 hd
      have e20 : a'.tmps[20]?.getD undef = .agg #[.int .i64 po1, .int .i64 v1, .int .i64 v2, .int .u32 g1, .bool ex, .int .i64 left, .slice a1 n1 c1] := vev (hd 9 List.mem_cons_self)
      refine Does2.call 91 #[.agg #[.int .i64 po1, .int .i64 v1, .int .i64 v2, .int .u32 g1, .bool ex, .int .i64 left, .slice a1 n1 c1]] (w' := w9) ?_ ((dKeyOf po1 v1 v2 g1 ex left a1 n1 c1 w9).mono ?_)
      · clear hS h0 hd
        go_simp
      · rintro e w8 ⟨rfl, hb⟩
        exact ⟨_, rfl, rfl, hS.trans (hb.mono hS.size), hb⟩
    case refine_12 =>
      intro a' w9 hS h0 hd
      have e3 : a'.tmps[3]?.getD undef = .pointer (some ⟨w.heap.size + 1, 0, none⟩) := vev (h0 3 (by kernel_rfl))
      obtain ⟨y0, y1, -⟩ := (KB.out.below hS KB.out.lt).cells
      refine Does2.value (.agg #[.int .i64 po, .int .u32 g]) (w' := w9) ?_ ⟨rfl, hS, Below.refl _ _⟩
      clear hS h0 hd
      go_simp
    case refine_13 =>
      intro a' w9 hS h0 hd
      have e21 : a'.tmps[21]?.getD undef = .agg #[.int .i64 po1, .int .u32 g1] := vev (hd 10 List.mem_cons_self)
      have e22 : a'.tmps[22]?.getD undef = .agg #[.int .i64 po, .int .u32 g] := vev (hd 11 (List.mem_cons_of_mem _ List.mem_cons_self))
      refine Does2.value (.bool bb) (w' := w9) ?_ ⟨rfl, hS, Below.refl _ _⟩
      clear hS h0 hd
      cases x1 <;> cases x2 <;> (obtain rfl : _ = bb := HX12.out) <;> go_simp
    case refine_14 =>
      intro a' w9 hS h0 hd
      have e16 : a'.tmps[16]?.getD undef = .bool true := vev (hd 5 List.mem_cons_self)
      have e23 : a'.tmps[23]?.getD undef = .bool bb := vev (hd 12 (List.mem_cons_of_mem _ List.mem_cons_self))
      refine Does2.value (.bool bb) (w' := w9) ?_ ⟨rfl, hS, Below.refl _ _⟩
      clear hS h0 hd
      go_simp
    case refine_15 =>
      intro a' w9 hS h0 hd
      have e11 : a'.tmps[11]?.getD undef = .int .i64 (k : Int) := vev (hd 0 List.mem_cons_self)
      refine Does2.value (.int .i64 (k : Int)) (w' := w9) ?_ ⟨rfl, hS, Below.refl _ _⟩
      clear hS h0 hd
      go_simp
    case refine_16 =>
      intro a' w9 hS h0 hd
      have e24 : a'.tmps[24]?.getD undef = .bool bb := vev (hd 13 List.mem_cons_self)
      refine Does2.value (.bool bb) (w' := w9) ?_ ⟨rfl, hS, Below.refl _ _⟩
      clear hS h0 hd
      go_simp
    case hend =>
      intro f w9 hS hv
      have v4 := hv 14 (by decide)
      replace v4 : f 4 = .int .i64 (k : Int) := v4
      have v5 := hv 15 (by decide)
      replace v5 : f 5 = .bool bb := v5
      simp only [putAll, Act.put, List.setIfInBounds_toArray, List.set_cons_zero, List.set_cons_succ, v4, v5]
      go_wp2_with fail
      go_ret2
      exact HRES.out _ (HB3.out.trans (hS.mono HB3.out.size))

  · have i2 : decide ((k : Int) < (n : Int)) = false := decide_eq_false (by omega)
    have HRES := Lib.hid (HA.out false (.inr ⟨rfl, fun p hp => by rw [List.getElem?_eq_none (by rw [HX.out]; omega)] at hp; cases hp⟩))
    clear HA HH
    go_wp2_with fail
    refine wp_region_each4 (fbV w.heap.size a 0 0 n c k po g 0 0 0 0 false 0 none 0 0 false) (fun W => Below w3.heap.size w3 W) (fun _ A B => Below A.heap.size A B) fbD fbN [11, 12, 13, 14, 15, 16, 17, 18, 19, 20, 21, 22, 23, 24, 4, 5] (by kernel_rfl) (by kernel_rfl) (by kernel_rfl) (Below.refl _ w3).drew
      (fun i j oi oj v us A B hoi hoj hij hw hSA hr hv => fb_st _ _ _ _ _ _ _ _ _ _ _ _ _ _ _ _ _ _ _ hr hv) ?hgd ?hng ?hsk
      ⟨?_, ?_, ?_, ?_, ?_, ?_, ?_, ?_, ?_, ?_, ?_, ?_, ?_, ?_, ?_, ?_, trivial⟩ ?hend
    case hgd =>
      intro i o g b hoi hog v us w hv
      have hi : i < 16 := (Array.getElem?_eq_some_iff.1 hoi).1
      have hc : i = 0 ∨ i = 1 ∨ i = 2 ∨ i = 3 ∨ i = 4 ∨ i = 5 ∨ i = 6 ∨ i = 7 ∨ i = 8 ∨ i = 9 ∨ i = 10 ∨ i = 11 ∨ i = 12 ∨ i = 13 ∨ i = 14 ∨ i = 15 := by omega
      rcases hc with rfl | rfl | rfl | rfl | rfl | rfl | rfl | rfl | rfl | rfl | rfl | rfl | rfl | rfl | rfl | rfl
      · cases hoi; cases hog
      · cases hoi; cases hog
      · cases hoi; cases hog
      · cases hoi; cases hog
      · cases hoi; cases hog
      · cases hoi; cases hog
      · cases hoi; cases hog
        show v ≠ _
        rw [show v = _ from hv]
        intro e; cases e
      · cases hoi; cases hog
        show v ≠ _
        rw [show v = _ from hv]
        intro e; cases e
      · cases hoi; cases hog
        show v ≠ _
        rw [show v = _ from hv]
        intro e; cases e
      · cases hoi; cases hog
        show v ≠ _
        rw [show v = _ from hv]
        intro e; cases e
      · cases hoi; cases hog
        show v ≠ _
        rw [show v = _ from hv]
        intro e; cases e
      · cases hoi; cases hog
        show v ≠ _
        rw [show v = _ from hv]
        intro e; cases e
      · cases hoi; cases hog
        show v ≠ _
        rw [show v = _ from hv]
        intro e; cases e
      · cases hoi; cases hog
      · cases hoi; cases hog
      · cases hoi; cases hog
    case hng =>
      intro i o hoi hr
      have hi : i < 16 := (Array.getElem?_eq_some_iff.1 hoi).1
      have hc : i = 0 ∨ i = 1 ∨ i = 2 ∨ i = 3 ∨ i = 4 ∨ i = 5 ∨ i = 6 ∨ i = 7 ∨ i = 8 ∨ i = 9 ∨ i = 10 ∨ i = 11 ∨ i = 12 ∨ i = 13 ∨ i = 14 ∨ i = 15 := by omega
      rcases hc with rfl | rfl | rfl | rfl | rfl | rfl | rfl | rfl | rfl | rfl | rfl | rfl | rfl | rfl | rfl | rfl
      · exact absurd hr (by decide)
      · exact absurd hr (by decide)
      · exact absurd hr (by decide)
      · exact absurd hr (by decide)
      · exact absurd hr (by decide)
      · exact absurd hr (by decide)
      · cases hoi; exact ⟨_, _, rfl⟩
      · cases hoi; exact ⟨_, _, rfl⟩
      · cases hoi; exact ⟨_, _, rfl⟩
      · cases hoi; exact ⟨_, _, rfl⟩
      · cases hoi; exact ⟨_, _, rfl⟩
      · cases hoi; exact ⟨_, _, rfl⟩
      · cases hoi; exact ⟨_, _, rfl⟩
      · exact absurd hr (by decide)
      · exact absurd hr (by decide)
      · exact absurd hr (by decide)
    case hsk =>
      intro i us w hr hS
      by_cases hi : i < 16
      · have hc : i = 0 ∨ i = 1 ∨ i = 2 ∨ i = 3 ∨ i = 4 ∨ i = 5 ∨ i = 6 ∨ i = 7 ∨ i = 8 ∨ i = 9 ∨ i = 10 ∨ i = 11 ∨ i = 12 ∨ i = 13 ∨ i = 14 ∨ i = 15 := by omega
        rcases hc with rfl | rfl | rfl | rfl | rfl | rfl | rfl | rfl | rfl | rfl | rfl | rfl | rfl | rfl | rfl | rfl
        · exact absurd hr (by decide)
        · exact absurd hr (by decide)
        · exact absurd hr (by decide)
        · exact absurd hr (by decide)
        · exact absurd hr (by decide)
        · exact absurd hr (by decide)
        · exact rfl
        · exact rfl
        · exact rfl
        · exact rfl
        · exact rfl
        · exact rfl
        · exact rfl
        · exact absurd hr (by decide)
        · exact absurd hr (by decide)
        · exact absurd hr (by decide)
      · exact absurd hr (by rw [show fbN i = true from by unfold fbN; simp; omega]; decide)
    case refine_1 =>
      intro hrun a' w9 hS h0 hd
      have e6 : a'.tmps[6]?.getD undef = .int .i64 (k : Int) := vev (h0 6 (by kernel_rfl))
      refine Does2.value (.int .i64 (k : Int)) (w' := w9) ?_ ⟨rfl, hS, Below.refl _ _⟩
      clear hS h0 hd hrun
      go_simp
    case refine_2 =>
      intro hrun a' w9 hS h0 hd
      have e6 : a'.tmps[6]?.getD undef = .int .i64 (k : Int) := vev (h0 6 (by kernel_rfl))
      refine Does2.value (.int .i64 (k : Int)) (w' := w9) ?_ ⟨rfl, hS, Below.refl _ _⟩
      clear hS h0 hd hrun
      go_simp
    case refine_3 =>
      intro hrun a' w9 hS h0 hd
      have e2 : a'.tmps[2]?.getD undef = .pointer (some ⟨w.heap.size, 0, none⟩) := vev (h0 2 (by kernel_rfl))
      obtain ⟨y0, -⟩ := (LB.out.below hS LB.out.lt).cells
      refine Does2.value (.slice a n c) (w' := w9) ?_ ⟨rfl, hS, Below.refl _ _⟩
      clear hS h0 hd hrun
      go_simp
    case refine_4 =>
      intro hrun a' w9 hS h0 hd
      have e13 : a'.tmps[13]?.getD undef = .slice a n c := vev (hd 2 List.mem_cons_self)
      refine Does2.value (.int .i64 (n : Int)) (w' := w9) ?_ ⟨rfl, hS, Below.refl _ _⟩
      clear hS h0 hd hrun
      go_simp
    case refine_5 =>
      intro hrun a' w9 hS h0 hd
      have e12 : a'.tmps[12]?.getD undef = .int .i64 (k : Int) := vev (hd 1 List.mem_cons_self)
      have e14 : a'.tmps[14]?.getD undef = .int .i64 (n : Int) := vev (hd 3 (List.mem_cons_of_mem _ List.mem_cons_self))
      refine Does2.value (.bool false) (w' := w9) ?_ ⟨rfl, hS, Below.refl _ _⟩
      clear hS h0 hd hrun
      go_simp
    case refine_6 =>
      intro hrun a' w9 hS h0 hd
      have e15 : a'.tmps[15]?.getD undef = .bool false := vev (hd 4 List.mem_cons_self)
      refine Does2.value (.bool false) (w' := w9) ?_ ⟨rfl, hS, Below.refl _ _⟩
      clear hS h0 hd hrun
      go_simp
    case refine_7 =>
      intro hrun a' w9 hS h0 hd
      exact absurd hrun (by decide)
    case refine_8 =>
      intro hrun a' w9 hS h0 hd
      exact absurd hrun (by decide)
    case refine_9 =>
      intro hrun a' w9 hS h0 hd
      exact absurd hrun (by decide)
    case refine_10 =>
      intro hrun a' w9 hS h0 hd
      exact absurd hrun (by decide)
    case refine_11 =>
      intro hrun a' w9 hS h0 hd
      exact absurd hrun (by decide)
    case refine_12 =>
      intro hrun a' w9 hS h0 hd
      exact absurd hrun (by decide)
    case refine_13 =>
      intro hrun a' w9 hS h0 hd
      exact absurd hrun (by decide)
    case refine_14 =>
      intro hrun a' w9 hS h0 hd
      have e16 : a'.tmps[16]?.getD undef = .bool false := vev (hd 5 List.mem_cons_self)
      have e23 : a'.tmps[23]?.getD undef = undef := vev (hd 12 (List.mem_cons_of_mem _ List.mem_cons_self))
      refine Does2.value (.bool false) (w' := w9) ?_ ⟨rfl, hS, Below.refl _ _⟩
      clear hS h0 hd hrun
      go_simp
    case refine_15 =>
      intro hrun a' w9 hS h0 hd
      have e11 : a'.tmps[11]?.getD undef = .int .i64 (k : Int) := vev (hd 0 List.mem_cons_self)
      refine Does2.value (.int .i64 (k : Int)) (w' := w9) ?_ ⟨rfl, hS, Below.refl _ _⟩
      clear hS h0 hd hrun
      go_simp
    case refine_16 =>
      intro hrun a' w9 hS h0 hd
      have e24 : a'.tmps[24]?.getD undef = .bool false := vev (hd 13 List.mem_cons_self)
      refine Does2.value (.bool false) (w' := w9) ?_ ⟨rfl, hS, Below.refl _ _⟩
      clear hS h0 hd hrun
      go_simp
    case hend =>
      intro f w9 hS hv
      have v4 := hv 14 (by decide)
      replace v4 : f 4 = .int .i64 (k : Int) := v4
      have v5 := hv 15 (by decide)
      replace v5 : f 5 = .bool false := v5
      simp only [putAll, Act.put, List.setIfInBounds_toArray, List.set_cons_zero, List.set_cons_succ, v4, v5]
      go_wp2_with fail
      go_ret2
      exact HRES.out _ (HB3.out.trans (hS.mono HB3.out.size))
end Go.Proofs.YtiabbkjmgaemaaaGreat
