/- The law's small functions; arguments that came in. -/
import Derived.Test.YtllpmepmgnnoaaaGreatRows
import Derived.Test.YtllpmepmgnnoaaaGreatPg
import Derived.WalkKit
import Derived.ProofKit
import Derived.OpenShut
import Derived.ShutString
import Derived.ChangeOld
import Derived.Below
import Derived.Deep.DeepHandedRow
import Derived.Deep.Fields
import Derived.SizedLaws
namespace Go.Proofs.YtllpmepmgnnoaaaGreat
set_option linter.unusedVariables false
open Go.ChangeShapes Go.WideShapes Go.ChangeAt Go.RowKit Go.Deep

theorem own : ownKnob Tryz.prog.godebug = none := by kernel_rfl
theorem laidOut : laidOutB Tryz.prog = true := by kernel_rfl
theorem u32_bd {a : Int} (h : (Lit.int .u32 a).wf = true) : 0 ≤ a ∧ a ≤ 4294967295 := by
  have := bounds_u32 h; omega

section
variable {H : Type} {enc : TypeId × Value → H} {w : World} {base : Nat} {held : Bool}
theorem get_field {P : Program} {spare : Nat → Bool} {n : Nat} {fs : Array Field} {l : List Value} {xs : List (DataW H × List MemPlace)}
    (hg : ∀ (i : Nat) (f : Field), fs[i]? = some f → DataW.trod enc P w base spare held n f.type ((l.drop f.offset).take (P.cellsOf f.type)) = xs[i]?) (i : Nat) {f : Field} (off : Nat) (ty : TypeId) (k : Nat) (hf : fs[i]? = some f) (ho : f.offset = off) (ht : f.type = ty) (hk : P.cellsOf ty = k) (hlen : i < xs.length) :
    DataW.trod enc P w base spare held n ty ((l.drop off).take k) = some xs[i] := by
  have := hg i f hf
  rw [ho, ht, hk, List.getElem?_eq_getElem hlen] at this
  exact this
theorem weights_all {P : Program} {e : TypeId} : ∀ {l : List (DataW H)} {d : DataW H}, d ∈ l → ∀ n ∈ d.weights P e, n ∈ DataW.weightsAll P e l
  | d0 :: l, d, hd, n, hn => by
    unfold DataW.weightsAll
    rw [List.mem_append]
    rcases List.mem_cons.1 hd with rfl | hd
    · exact .inl hn
    · exact .inr (weights_all hd n hn)
theorem open_as {fuel : Nat} {c : Value} {y : DataW H × List MemPlace} (h : DataW.trod enc Tryz.prog w base (fun _ => true) held fuel 29 [c] = some y) (hz : ∀ n ∈ y.1.weights Tryz.prog 29, n ≤ reachBytes) :
    ∃ a cp xs, c = .slice a (List.length xs) cp ∧ As w a xs ∧ xs.length ≤ 1125899906842624 ∧ (a = none → cp = 0) := by
  rcases open_ints Tryz.underlying29 Tryz.underlying25 (by kernel_rfl) h with ⟨hcs, _⟩ | ⟨x, l, cp, zs, hcs, _, hl, hm, hzl, hx, hcell, hwz⟩
  · simp at hcs
    exact ⟨none, 0, [], hcs, As.nil _ _, by simp, fun _ => rfl⟩
  · simp at hcs hzl
    have hlen : (zs.take l).length = l := by rw [List.length_take]; omega
    have hget : ∀ k, k < l → (zs.take l).getD k 0 = zs.getD k 0 := by
      intro k hk
      rw [List.getD_eq_getElem?_getD, List.getD_eq_getElem?_getD, List.getElem?_take_of_lt hk]
    have hby : Tryz.prog.bytesOf 25 = 4 := by kernel_rfl
    have hw := hz ((l + (zs.length - l)) * 4) (by rw [hx]; simp [DataW.weights, Tryz.underlying29, lits, hby]; left; omega)
    refine ⟨some x, cp, zs.take l, by rw [hlen]; exact hcs, ⟨?_, ?_⟩, by rw [hlen]; unfold reachBytes at hw; omega, fun e => by cases e⟩
    · by_cases h0 : l = 0
      · subst h0; exact .inl (by simp)
      · obtain ⟨b, off, spot⟩ := x
        have hs : spot = none := by
          have := hcell 0 (by omega)
          simpa [Addr.add] using World.cell?_spot this
        subst hs
        refine .inr ⟨b, off, rfl, fun k hk => ?_⟩
        rw [hlen] at hk
        have := hcell k (by omega)
        rw [hget k hk, ← this, add_flat]
    · intro k hk
      rw [hlen] at hk
      rw [hget k hk]
      have hmem : zs.getD k 0 ∈ zs := by
        rw [List.getD_eq_getElem?_getD, List.getElem?_eq_getElem (by omega)]
        exact List.getElem_mem _
      exact u32_bd (hwz _ hmem)
theorem list_of {α : Type} (R : Nat → α → Prop) : ∀ n : Nat, (∀ i, i < n → ∃ r, R i r) → ∃ l : List α, l.length = n ∧ ∀ k r, l[k]? = some r → R k r
  | 0, _ => ⟨[], rfl, fun k r h => by simp at h⟩
  | n + 1, h => by
    obtain ⟨l, hl, hr⟩ := list_of R n fun i hi => h i (by omega)
    obtain ⟨r, hn⟩ := h n (by omega)
    refine ⟨l ++ [r], by simp [hl], fun k r' hk => ?_⟩
    by_cases h' : k < n
    · rw [List.getElem?_append_left (by omega)] at hk
      exact hr k r' hk
    · rw [List.getElem?_append_right (by omega)] at hk
      have e : k - l.length = 0 := by
        have := (List.getElem?_eq_some_iff.1 hk).1
        simp at this; omega
      rw [e] at hk
      simp at hk
      subst hk
      rwa [show k = n by omega]
set_option maxRecDepth 100000 in
/-- A row of addresses that came in. -/
theorem open_top {r : Reach} {b0 : Nat} {v : Value} {d : DataW H} {p : List MemPlace} (hv : Value.okWide Tryz.prog w r b0 29 v) (h : DataW.Trod enc Tryz.prog w base (fun _ => true) held 29 v d p) (hz : ∀ n ∈ d.weights Tryz.prog 29, n ≤ reachBytes) :
    ∃ (a : Option Addr) (cp : Nat) (xs : List Int), v = .slice a (List.length xs) cp ∧ As w a xs ∧ Flat a (List.length xs) cp ∧ List.length xs ≤ 1125899906842624 := by
  obtain ⟨a0, l0, c0, rfl⟩ := okWide_slice Tryz.underlying29 hv
  obtain ⟨fuel, hf⟩ := h
  obtain ⟨a, cp, xs, e, ha, hn, hc⟩ := open_as (c := .slice a0 l0 c0) (y := (d, p)) (by simpa [Value.cells] using hf) hz
  cases e
  refine ⟨a0, c0, xs, rfl, ha, ?_, hn⟩
  unfold Value.okWide at hv
  simp only [Tryz.underlying29] at hv
  unfold Cell.okWide at hv
  simp only [Tryz.underlying29] at hv
  unfold Cell.ok at hv
  simp only [Tryz.underlying29] at hv
  match a0, hc, ha, hv with
  | none, hc, ha, hv =>
    refine .inl ⟨rfl, ?_, hc rfl⟩
    rcases ha.1 with e | ⟨_, _, e, _⟩
    · rw [e]; rfl
    · cases e
  | some ⟨b, off, spot⟩, hc, ha, hv =>
    obtain ⟨_, _, _, hs, _⟩ := hv
    simp only at hs
    subst hs
    exact .inr ⟨b, off, rfl⟩
end
end Go.Proofs.YtllpmepmgnnoaaaGreat
