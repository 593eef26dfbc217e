/- Plain mathematics of addresses and their texts: no program in it. -/
import Derived.Lib.ItoaMem
import Derived.Lib.Bytealg
namespace Go.Proofs.YtkkemcfigjnbgaaDoor
set_option linter.unusedVariables false

/-- The decimal text of a number below 1000, written out. -/
def d3 (n : Nat) : List UInt8 := if n < 10 then [UInt8.ofNat (48 + n)] else if n < 100 then [UInt8.ofNat (48 + n / 10), UInt8.ofNat (48 + n % 10)] else [UInt8.ofNat (48 + n / 100), UInt8.ofNat (48 + n / 10 % 10), UInt8.ofNat (48 + n % 10)]

theorem decDigits_d3 (n : Nat) (h : n < 1000) : Lib.decDigits n = d3 n := by
  unfold d3
  by_cases h1 : n < 10
  · rw [if_pos h1, Lib.decDigits_one h1]
  · rw [if_neg h1]
    by_cases h2 : n < 100
    · rw [if_pos h2, Lib.decDigits_two h1 h2]
    · rw [if_neg h2]
      have e : Lib.decDigits n = Lib.decDigits (n / 10) ++ [UInt8.ofNat (48 + n % 10)] := by rw [Lib.decDigits, dif_neg h1]
      rw [e, Lib.decDigits_two (by omega) (by omega)]
      simp only [List.cons_append, List.nil_append]
      rw [show n / 10 / 10 = n / 100 by omega]

theorem d3_digits : ∀ n : Fin 256, ((d3 n.val).all fun c => 48 ≤ c.toNat && c.toNat ≤ 57) = true ∧ 1 ≤ (d3 n.val).length ∧ (d3 n.val).length ≤ 3 := by decide +kernel
theorem d3_step : ∀ n : Fin 26, ∀ c : Fin 10, 1 ≤ n.val → d3 (n.val * 10 + c.val) = d3 n.val ++ [UInt8.ofNat (48 + c.val)] := by decide +kernel
theorem d3_one : ∀ c : Fin 10, d3 c.val = [UInt8.ofNat (48 + c.val)] := by decide +kernel

theorem digit_of {c : UInt8} (h1 : 48 ≤ c.toNat) (h2 : c.toNat ≤ 57) : UInt8.ofNat (48 + (c.toNat - 48)) = c := by
  rw [show 48 + (c.toNat - 48) = c.toNat by omega]; simp

/-- What 'number' does. -/
def numGo : List UInt8 → Nat → Nat → Nat × Nat
  | [], n, d => (n, d)
  | c :: r, n, d => if c.toNat < 48 ∨ 57 < c.toNat then (n, d) else if 0 < d ∧ n = 0 then (n, d) else if 255 < n * 10 + (c.toNat - 48) then (n, d) else numGo r (n * 10 + (c.toNat - 48)) (d + 1)

theorem numGo_d3 : ∀ n : Fin 256, numGo (d3 n.val) 0 0 = (n.val, (d3 n.val).length) := by decide +kernel

theorem numGo_all : ∀ (r : List UInt8) (n d : Nat) (q : List UInt8), (d = 0 ∧ n = 0 ∧ q = [] ∨ d = q.length ∧ 0 < d ∧ q = d3 n ∧ n ≤ 255) →
    (numGo r n d).2 ≤ d + r.length ∧ (numGo r n d).1 ≤ 255 ∧ ((numGo r n d).2 = d + r.length → 0 < d + r.length → q ++ r = d3 (numGo r n d).1)
  | [], n, d, q, h => by
    refine ⟨by simp [numGo], ?_, ?_⟩
    · rcases h with ⟨_, rfl, _⟩ | ⟨_, _, _, h⟩ <;> simp [numGo]
      exact h
    · intro _ h0
      rcases h with ⟨rfl, _⟩ | ⟨_, _, rfl, _⟩
      · simp at h0
      · simp [numGo]
  | c :: r, n, d, q, h => by
    have hn : n ≤ 255 := by rcases h with ⟨_, rfl, _⟩ | ⟨_, _, _, h⟩ <;> omega
    have stop : (n, d).2 ≤ d + (c :: r).length ∧ (n, d).1 ≤ 255 ∧ ((n, d).2 = d + (c :: r).length → 0 < d + (c :: r).length → q ++ (c :: r) = d3 (n, d).1) := by
      refine ⟨by simp, hn, fun h => ?_⟩
      simp at h
    unfold numGo
    by_cases h1 : c.toNat < 48 ∨ 57 < c.toNat
    · rw [if_pos h1]; exact stop
    · rw [if_neg h1]
      by_cases h2 : 0 < d ∧ n = 0
      · rw [if_pos h2]; exact stop
      · rw [if_neg h2]
        by_cases h3 : 255 < n * 10 + (c.toNat - 48)
        · rw [if_pos h3]; exact stop
        · rw [if_neg h3]
          have hc : UInt8.ofNat (48 + (c.toNat - 48)) = c := digit_of (by omega) (by omega)
          have hq : d + 1 = (q ++ [c]).length ∧ 0 < d + 1 ∧ q ++ [c] = d3 (n * 10 + (c.toNat - 48)) ∧ n * 10 + (c.toNat - 48) ≤ 255 := by
            rcases h with ⟨rfl, rfl, rfl⟩ | ⟨hd, hd0, rfl, _⟩
            · refine ⟨by simp, by omega, ?_, by omega⟩
              have := d3_one ⟨c.toNat - 48, by omega⟩
              simp only [] at this
              rw [Nat.zero_mul, Nat.zero_add, this, hc]; rfl
            · refine ⟨by simp; omega, by omega, ?_, by omega⟩
              have := d3_step ⟨n, by omega⟩ ⟨c.toNat - 48, by omega⟩ (by simp only []; omega)
              simp only [] at this
              rw [this, hc]
          have ih := numGo_all r (n * 10 + (c.toNat - 48)) (d + 1) (q ++ [c]) (.inr hq)
          refine ⟨by have := ih.1; simp; omega, ih.2.1, fun e _ => ?_⟩
          have := ih.2.2 (by simp at e; omega) (by omega)
          simpa using this

/-- A row of bytes, parted at its points. -/
def sp : List UInt8 → List (List UInt8)
  | [] => [[]]
  | c :: r => if c = 46 then [] :: sp r else match sp r with | h :: t => (c :: h) :: t | [] => [[c]]

theorem sp_ne : ∀ l, sp l ≠ []
  | [] => by simp [sp]
  | c :: r => by
    unfold sp
    split
    · simp
    · split <;> simp

def joinDot : List (List UInt8) → List UInt8
  | [] => []
  | [x] => x
  | x :: y :: t => x ++ 46 :: joinDot (y :: t)

theorem joinDot_cons {t : List (List UInt8)} (h : t ≠ []) (x : List UInt8) : joinDot (x :: t) = x ++ 46 :: joinDot t := by
  cases t with
  | nil => exact absurd rfl h
  | cons y t => rfl

theorem joinDot_sp : ∀ l, joinDot (sp l) = l
  | [] => rfl
  | c :: r => by
    have ih := joinDot_sp r
    unfold sp
    split
    · rename_i hc
      rw [joinDot_cons (sp_ne r), ih, hc]; rfl
    · split
      · rename_i h t e
        rw [e] at ih
        cases t with
        | nil => simp only [joinDot] at ih ⊢; rw [ih]
        | cons y t => simp only [joinDot, List.cons_append] at ih ⊢; rw [ih]
      · rename_i e; exact absurd e (sp_ne r)

theorem sp_plain : ∀ (x : List UInt8), (∀ c ∈ x, c ≠ 46) → sp x = [x]
  | [], _ => rfl
  | c :: r, h => by
    have ih := sp_plain r (fun c hc => h c (List.mem_cons_of_mem _ hc))
    unfold sp
    rw [if_neg (h c (List.mem_cons_self ..)), ih]

theorem sp_dot : ∀ (x r : List UInt8), (∀ c ∈ x, c ≠ 46) → sp (x ++ 46 :: r) = x :: sp r
  | [], r, _ => by simp [sp]
  | c :: x, r, h => by
    have ih := sp_dot x r (fun c hc => h c (List.mem_cons_of_mem _ hc))
    rw [List.cons_append]
    conv => lhs; unfold sp
    rw [if_neg (h c (List.mem_cons_self ..)), ih]

/-- Where the first point is. -/
theorem sp_index : ∀ l : List UInt8, (Lib.indexByte l 46 = -1 ∧ (∀ c ∈ l, c ≠ 46)) ∨ (∃ i : Nat, Lib.indexByte l 46 = i ∧ i < l.length ∧ sp l = l.take i :: sp (l.drop (i + 1)))
  | [] => .inl ⟨rfl, by simp⟩
  | c :: r => by
    unfold Lib.indexByte
    by_cases hc : c = 46
    · subst hc
      exact .inr ⟨0, by simp, by simp, by simp [sp]⟩
    · have hb : (c == 46) = false := by simpa using hc
      rcases sp_index r with ⟨h1, h2⟩ | ⟨i, h1, h2, h3⟩
      · refine .inl ⟨by simp [hb, h1], ?_⟩
        intro x hx
        rcases List.mem_cons.1 hx with rfl | hx
        · exact hc
        · exact h2 x hx
      · refine .inr ⟨i + 1, ?_, by simpa using h2, ?_⟩
        · have : ((i : Int) == -1) = false := by rw [beq_eq_false_iff_ne]; omega
          simp [hb, h1, this]
        · conv => lhs; unfold sp
          rw [if_neg hc, h3]; simp

/-! ### An address's text -/

def dd (x : Int) : List UInt8 := d3 x.toNat
def parts4 (a : Int) : List (List UInt8) := [dd (a / 16777216), dd (a / 65536 % 256), dd (a / 256 % 256), dd (a % 256)]
def txt (a : Int) : List UInt8 := joinDot (parts4 a)
def IsText (s : List UInt8) (a : Int) : Prop := 0 ≤ a ∧ a ≤ 4294967295 ∧ txt a = s

theorem itoa_dd (x : Int) (h0 : 0 ≤ x) (h1 : x ≤ 255) : Lib.itoa x = dd x := by
  obtain ⟨n, rfl⟩ := Int.eq_ofNat_of_zero_le h0
  rw [Lib.itoa_nonneg, decDigits_d3 n (by omega)]; simp [dd]

theorem dd_nodot {x : Int} (h0 : 0 ≤ x) (h1 : x ≤ 255) : ∀ c ∈ dd x, c ≠ 46 := by
  have h := (d3_digits ⟨x.toNat, by omega⟩).1
  simp only [List.all_eq_true, Bool.and_eq_true, decide_eq_true_eq] at h
  intro c hc e
  have := (h c hc).1
  subst e
  simp at this

theorem dd_digit {x : Int} (h0 : 0 ≤ x) (h1 : x ≤ 255) : ∀ c ∈ dd x, 48 ≤ c.toNat ∧ c.toNat ≤ 57 := by
  have h := (d3_digits ⟨x.toNat, by omega⟩).1
  simp only [List.all_eq_true, Bool.and_eq_true, decide_eq_true_eq] at h
  exact h

theorem dd_len {x : Int} (h0 : 0 ≤ x) (h1 : x ≤ 255) : 1 ≤ (dd x).length ∧ (dd x).length ≤ 3 := (d3_digits ⟨x.toNat, by omega⟩).2

theorem sp_txt {a : Int} (h0 : 0 ≤ a) (h1 : a ≤ 4294967295) : sp (txt a) = parts4 a := by
  unfold txt parts4
  rw [joinDot_cons (by simp), joinDot_cons (by simp), joinDot_cons (by simp)]
  rw [sp_dot _ _ (dd_nodot (by omega) (by omega)), sp_dot _ _ (dd_nodot (by omega) (by omega)), sp_dot _ _ (dd_nodot (by omega) (by omega))]
  rw [show joinDot [dd (a % 256)] = dd (a % 256) from rfl, sp_plain _ (dd_nodot (by omega) (by omega))]

theorem d3_inj {n m : Nat} (hn : n ≤ 255) (hm : m ≤ 255) (h : d3 n = d3 m) : n = m := by
  have a := numGo_d3 ⟨n, by omega⟩
  have b := numGo_d3 ⟨m, by omega⟩
  simp only [] at a b
  rw [h, b] at a
  exact (congrArg Prod.fst a).symm

theorem dd_inj {x y : Int} (hx0 : 0 ≤ x) (hx : x ≤ 255) (hy0 : 0 ≤ y) (hy : y ≤ 255) (h : dd x = dd y) : x = y := by
  have := d3_inj (by omega) (by omega) h
  omega

theorem txt_inj {a b : Int} (ha0 : 0 ≤ a) (ha : a ≤ 4294967295) (hb0 : 0 ≤ b) (hb : b ≤ 4294967295) (h : txt a = txt b) : a = b := by
  have h1 := sp_txt ha0 ha
  rw [h, sp_txt hb0 hb] at h1
  unfold parts4 at h1
  simp only [List.cons.injEq, and_true] at h1
  obtain ⟨e0, e1, e2, e3⟩ := h1
  have f0 := dd_inj (by omega) (by omega) (by omega) (by omega) e0
  have f1 := dd_inj (by omega) (by omega) (by omega) (by omega) e1
  have f2 := dd_inj (by omega) (by omega) (by omega) (by omega) e2
  have f3 := dd_inj (by omega) (by omega) (by omega) (by omega) e3
  omega

open Classical in
/-- The address of a text, and the error's number. -/
noncomputable def pv (s : List UInt8) : Int := if h : ∃ a, IsText s a then h.choose else 0
open Classical in
noncomputable def pe (s : List UInt8) : Int := if ∃ a, IsText s a then 0 else 2

theorem p_yes {s : List UInt8} {a : Int} (h : IsText s a) : pv s = a ∧ pe s = 0 := by
  have hx : ∃ a, IsText s a := ⟨a, h⟩
  refine ⟨?_, by unfold pe; rw [if_pos hx]⟩
  unfold pv
  rw [dif_pos hx]
  have hc := hx.choose_spec
  exact txt_inj hc.1 hc.2.1 h.1 h.2.1 (hc.2.2.trans h.2.2.symm)

theorem p_no {s : List UInt8} (h : ∀ a, ¬ IsText s a) : pv s = 0 ∧ pe s = 2 := by
  have hx : ¬ ∃ a, IsText s a := fun ⟨a, ha⟩ => h a ha
  exact ⟨by unfold pv; rw [dif_neg hx], by unfold pe; rw [if_neg hx]⟩

theorem p_cases (s : List UInt8) : (IsText s (pv s) ∧ pe s = 0) ∨ ((∀ a, ¬ IsText s a) ∧ pv s = 0 ∧ pe s = 2) := by
  by_cases h : ∃ a, IsText s a
  · obtain ⟨a, ha⟩ := h
    obtain ⟨h1, h2⟩ := p_yes ha
    rw [h1]
    exact .inl ⟨ha, h2⟩
  · have h' : ∀ a, ¬ IsText s a := fun a ha => h ⟨a, ha⟩
    exact .inr ⟨h', p_no h'⟩

theorem pv_bd (s : List UInt8) : 0 ≤ pv s ∧ pv s ≤ 4294967295 := by
  rcases p_cases s with ⟨h, _⟩ | ⟨_, h, _⟩
  · exact ⟨h.1, h.2.1⟩
  · omega

/-- Four numbers' address. -/
theorem four {x0 x1 x2 x3 : Int} (h0 : 0 ≤ x0 ∧ x0 ≤ 255) (h1 : 0 ≤ x1 ∧ x1 ≤ 255) (h2 : 0 ≤ x2 ∧ x2 ≤ 255) (h3 : 0 ≤ x3 ∧ x3 ≤ 255) :
    parts4 (((x0 * 256 + x1) * 256 + x2) * 256 + x3) = [dd x0, dd x1, dd x2, dd x3] := by
  unfold parts4
  rw [show (((x0 * 256 + x1) * 256 + x2) * 256 + x3) / 16777216 = x0 by omega, show (((x0 * 256 + x1) * 256 + x2) * 256 + x3) / 65536 % 256 = x1 by omega,
    show (((x0 * 256 + x1) * 256 + x2) * 256 + x3) / 256 % 256 = x2 by omega, show (((x0 * 256 + x1) * 256 + x2) * 256 + x3) % 256 = x3 by omega]

end Go.Proofs.YtkkemcfigjnbgaaDoor
