/- Rows of bytes that are joined: a new one that holds them all. -/
import Derived.Test.YthmejokjbkkfbaaShelf
import Derived.Test.YthmejokjbkkfbaaSp
import Derived.Test.YthmejokjbkkfbaaOb
import Derived.Lib.SlFreshShut
namespace Go.Proofs.Ythmejokjbkkfbaa
set_option linter.unusedVariables false
open Go.RowKit

/-- A value that is a slice of the bytes xs. -/
def Sl (w : World) (v : Value) (xs : List Int) : Prop := ∃ a c, v = .slice a xs.length c ∧ Bs w a xs ∧ (a = none → xs.length = 0 ∧ c = 0)
theorem Sl.below {w w' : World} {v : Value} {xs : List Int} (h : Sl w v xs) (hb : Below w.heap.size w w') : Sl w' v xs := by
  obtain ⟨a, c, e, hs, hn⟩ := h
  exact ⟨a, c, e, bs_below hs hb, hn⟩
/-- A slice of the call's own that holds the bytes xs, none frozen. -/
def Fs (w : World) (B : Nat) (v : Value) (xs : List Int) : Prop := ∃ g c, v = .slice (some ⟨g, 0, none⟩) xs.length c ∧ B ≤ g ∧ xs.length ≤ c ∧ Bs w (some ⟨g, 0, none⟩) xs ∧ ∀ k, k < xs.length → w.frozen? ⟨g, k, none⟩ = false
theorem Fs.sl {w : World} {B : Nat} {v : Value} {xs : List Int} (h : Fs w B v xs) : Sl w v xs := by
  obtain ⟨g, c, e, _, _, hs, _⟩ := h
  exact ⟨_, c, e, hs, fun e => by cases e⟩
theorem Fs.up {w : World} {B C : Nat} {v : Value} {xs : List Int} (h : Fs w B v xs) (hC : C ≤ B) : Fs w C v xs := by
  obtain ⟨g, c, e, hB, h'⟩ := h
  exact ⟨g, c, e, Nat.le_trans hC hB, h'⟩
theorem bytesOf_inj {xs ys : List Int} (hx : ∀ y ∈ xs, 0 ≤ y ∧ y < 256) (hy : ∀ y ∈ ys, 0 ≤ y ∧ y < 256) (h : Lib.bytesOf xs = Lib.bytesOf ys) : xs = ys := by
  rw [← Lib.numsL_bytesOf xs hx, ← Lib.numsL_bytesOf ys hy, h]
theorem isB_mem {xs : List Int} (h : ∀ k, k < xs.length → 0 ≤ xs.getD k 0 ∧ xs.getD k 0 ≤ 255) : ∀ y ∈ xs, 0 ≤ y ∧ y < 256 := by
  intro y hy
  obtain ⟨i, hi⟩ := List.getElem?_of_mem hy
  have hlt : i < xs.length := (List.getElem?_eq_some_iff.1 hi).1
  have := h i hlt
  rw [List.getD_eq_getElem?_getD, hi] at this
  simp at this
  omega
theorem holds_of {w : World} {v : Value} {xs : List Int} (h : Sl w v xs) : Lib.HoldsBytes w v (Lib.bytesOf xs) := by
  obtain ⟨a, c, rfl, hs, hn⟩ := h
  refine ⟨a, c, by rw [Lib.bytesOf_length], fun e => ?_, fun ad e i x hx => ?_⟩
  · rw [List.eq_nil_of_length_eq_zero (hn e).1]; rfl
  · have hi : i < xs.length := by
      have := (List.getElem?_eq_some_iff.1 hx).1
      rwa [Lib.bytesOf_length] at this
    rcases hs.1 with rfl | ⟨b, off, e', hc⟩
    · simp at hi
    · rw [e] at e'; cases e'
      rw [add_flat, hc i hi]
      rw [show (Lib.bytesOf xs)[i]? = some (UInt8.ofNat (xs.getD i 0).toNat) by
        rw [Lib.bytesOf, List.getElem?_map, List.getElem?_eq_getElem hi, List.getD_eq_getElem?_getD, List.getElem?_eq_getElem hi]; rfl] at hx
      cases hx
      have hbd := hs.2 i hi
      congr 2
      rw [UInt8.toNat_ofNat']
      have : (xs.getD i 0).toNat % 2 ^ 8 = (xs.getD i 0).toNat := Nat.mod_eq_of_lt (by omega)
      rw [this]; omega
theorem fs_of {w : World} {B : Nat} {v : Value} {xs : List Int} (hx : IsB xs) (h : Lib.FreshBytes B w v (Lib.bytesOf xs)) : Fs w B v xs := by
  obtain ⟨g, cap, zs, e, hB, hlc, hm, hz, hbd, hb, hc, hf⟩ := h
  rw [Lib.bytesOf_length] at e hlc hb
  have ez : zs.take xs.length = xs := bytesOf_inj (fun y hy => hbd y (List.mem_of_mem_take hy)) (isB_mem hx) hb
  refine ⟨g, cap, e, hB, hlc, ⟨.inr ⟨g, 0, rfl, fun k hk => ?_⟩, hx⟩, fun k hk => hf k (by omega)⟩
  rw [Nat.zero_add, hc k (by omega)]
  have : zs.getD k 0 = xs.getD k 0 := by
    conv => rhs; rw [← ez]
    rw [List.getD_eq_getElem?_getD, List.getD_eq_getElem?_getD, List.getElem?_take_of_lt hk]
  rw [this]
theorem join_nil (ls : List (List UInt8)) : Lib.join ls [] = ls.flatten := by
  unfold Lib.join
  induction ls with
  | nil => rfl
  | cons x r ih =>
    cases r with
    | nil => simp [List.intercalate]
    | cons y r' =>
      simp only [List.intercalate, List.intersperse, List.flatten_cons] at ih ⊢
      rw [ih]; simp
theorem flatten_bytes (xss : List (List Int)) : (xss.map Lib.bytesOf).flatten = Lib.bytesOf xss.flatten := by
  induction xss with
  | nil => rfl
  | cons x r ih => simp only [List.map_cons, List.flatten_cons, ih]; simp [Lib.bytesOf]
theorem lens_bytes (xss : List (List Int)) : Lib.lens (xss.map Lib.bytesOf) = xss.flatten.length := by
  induction xss with
  | nil => rfl
  | cons x r ih =>
    rw [List.map_cons, Lib.lens_cons, ih, Lib.bytesOf_length, List.flatten_cons, List.length_append]
theorem isB_flatten {xss : List (List Int)} (h : ∀ xs ∈ xss, IsB xs) : IsB xss.flatten := by
  induction xss with
  | nil => exact isB_nil
  | cons x r ih => exact isB_append (h x List.mem_cons_self) (ih fun xs hx => h xs (List.mem_cons_of_mem _ hx))
/-- Rows of bytes in a row. -/
def Parts (w : World) (b : Nat) (vs : List Value) (xss : List (List Int)) : Prop :=
  vs.length = xss.length ∧ (∀ (i : Nat) v, vs[i]? = some v → w.cell? ⟨b, i, none⟩ = some v) ∧ ∀ (i : Nat) v xs, vs[i]? = some v → xss[i]? = some xs → Sl w v xs
theorem Parts.below {w w' : World} {b : Nat} {vs : List Value} {xss : List (List Int)} (h : Parts w b vs xss) (hb : Below w.heap.size w w') : Parts w' b vs xss := by
  obtain ⟨h1, h2, h3⟩ := h
  refine ⟨h1, fun i v hv => ?_, fun i v xs hv hx => (h3 i v xs hv hx).below hb⟩
  rw [hb.cell (p := ⟨b, i, none⟩) (cell_lt (h2 i v hv))]
  exact h2 i v hv
theorem Parts.at {w : World} {b : Nat} {vs : List Value} {xss : List (List Int)} (h : Parts w b vs xss) : Lib.PartsAt w ⟨b, 0, none⟩ vs (xss.map Lib.bytesOf) := by
  obtain ⟨h1, h2, h3⟩ := h
  refine ⟨by rw [List.length_map]; exact h1, fun i v hv => ?_, fun i v l hv hl => ?_⟩
  · rw [add_flat, Nat.zero_add]; exact h2 i v hv
  · rw [List.getElem?_map] at hl
    cases hx : xss[i]? with
    | none => rw [hx] at hl; cases hl
    | some xs =>
      rw [hx] at hl
      cases hl
      exact holds_of (h3 i v xs hv hx)
/-- Two parts, or more. -/
theorem lJoin (b n : Nat) (vs : List Value) (xss : List (List Int)) (w : World) (hn : xss.length = n) (h2 : 2 ≤ n) (hp : Parts w b vs xss) (hl : xss.flatten.length ≤ 1000000) (hn' : n ≤ 100) :
    Calls Try.prog 28 #[.slice (some ⟨b, 0, none⟩) n n, .slice none 0 0] w fun e w' => ∃ v, e = .returned v ∧ Fs w' w.heap.size v xss.flatten ∧ Below w.heap.size w w' := by
  have hB : IsB xss.flatten := isB_flatten fun xs hx => by
    obtain ⟨i, hi⟩ := List.getElem?_of_mem hx
    have hv : i < vs.length := by rw [hp.1]; exact (List.getElem?_eq_some_iff.1 hi).1
    obtain ⟨a, c, _, hs, _⟩ := hp.2.2 i vs[i] xs (List.getElem?_eq_getElem hv) hi
    exact hs.2
  refine (Try.bytes_Join_many b 0 n n vs (xss.map Lib.bytesOf) (.slice none 0 0) [] w (by rw [List.length_map]; exact hn) h2 hp.at (Nat.le_refl _) ⟨none, 0, rfl, fun _ => rfl, fun a e => by cases e⟩ (by omega)
    (by rw [lens_bytes, List.length_nil, Nat.zero_mul]; omega)).mono ?_
  rintro e w' ⟨v, rfl, hf, hb⟩
  rw [join_nil, flatten_bytes] at hf
  exact ⟨v, rfl, fs_of hB hf, hb⟩
/-- One part. -/
theorem lJoin1 (b : Nat) (v0 : Value) (xs : List Int) (w : World) (hc : w.cell? ⟨b, 0, none⟩ = some v0) (hs : Sl w v0 xs) (hl : xs.length ≤ 1000000) :
    Calls Try.prog 28 #[.slice (some ⟨b, 0, none⟩) 1 1, .slice none 0 0] w fun e w' => ∃ v, e = .returned v ∧ Sl w' v xs ∧ Below w.heap.size w w' := by
  obtain ⟨a, c, rfl, hb, hn⟩ := hs
  by_cases h0 : xs.length = 0
  · obtain rfl : xs = [] := List.eq_nil_of_length_eq_zero h0
    refine (Try.bytes_Join_one_empty b 0 1 a c (.slice none 0 0) w hc).mono ?_
    rintro e w' ⟨rfl, rfl⟩
    exact ⟨_, rfl, ⟨none, 0, rfl, ⟨.inl rfl, hb.2⟩, fun _ => ⟨rfl, rfl⟩⟩, Below.refl _ _⟩
  · cases ha : a with
    | none => exact absurd (hn ha).1 h0
    | some ad =>
      subst ha
      have hh : Lib.HoldsBytes w (.slice (some ad) xs.length c) (Lib.bytesOf xs) := holds_of ⟨_, c, rfl, hb, hn⟩
      obtain ⟨p, cap, e, _, hcs⟩ := hh
      rw [Lib.bytesOf_length] at e
      cases e
      refine (Try.bytes_Join_one b 0 1 ad c (Lib.bytesOf xs) (.slice none 0 0) w (by rw [Lib.bytesOf_length]; exact hc) (hcs ad rfl) (by rw [Lib.bytesOf_length]; omega) (by rw [Lib.bytesOf_length]; omega)).mono ?_
      rintro e w' ⟨v, rfl, hf, hb'⟩
      exact ⟨v, rfl, (fs_of hb.2 hf).sl, hb'⟩
/-- Are two slices of bytes the same? -/
theorem lEqual (a b : Option Addr) (n m c d : Nat) (xs ys : List Int) (w : World) (hx : xs.length = n) (hy : ys.length = m) (h1 : Bs w a xs) (h2 : Bs w b ys) :
    Calls Try.prog 41 #[.slice a n c, .slice b m d] w fun e w' => e = .returned (.bool (decide (xs = ys))) ∧ w' = w := by
  have conv : ∀ (a : Option Addr) (n : Nat) (xs : List Int), xs.length = n → Bs w a xs → Lib.BytesIn w a n xs := by
    intro a n xs hx hb
    rcases hb.1 with rfl | ⟨b, off, rfl, hc⟩
    · obtain rfl : n = 0 := by simpa using hx.symm
      exact Lib.BytesIn.nil w a []
    · exact Lib.BytesIn.of_cells (fun i hi => by rw [add_flat]; exact hc i (by omega))
  refine (Try.bytes_Equal_all a b n c m d xs ys w hx hy (conv a n xs hx h1) (conv b m ys hy h2)).mono ?_
  rintro e w' ⟨rfl, rfl⟩
  refine ⟨?_, rfl⟩
  congr 2
  by_cases h : xs = ys
  · simp [h]
  · rw [decide_eq_false h, beq_eq_false_iff_ne]
    exact fun e => h (bytesOf_inj (isB_mem h1.2) (isB_mem h2.2) e)
end Go.Proofs.Ythmejokjbkkfbaa
