/- The law's small functions; arguments that came in. -/
import Derived.Test.YtiabbkjmgaemaaaGreatDB0
import Derived.Test.YtiabbkjmgaemaaaGreatDB1
import Derived.Test.YtiabbkjmgaemaaaGreatDB2
import Derived.Test.YtiabbkjmgaemaaaGreatDB3
import Derived.Test.YtiabbkjmgaemaaaGreatDB4
import Derived.Test.YtiabbkjmgaemaaaGreatDB5
import Derived.Test.YtiabbkjmgaemaaaGreatDB6
import Derived.Test.YtiabbkjmgaemaaaGreatDB7
import Derived.Test.YtiabbkjmgaemaaaGreatDB8
import Derived.Test.YtiabbkjmgaemaaaGreatDB9
import Derived.Test.YtiabbkjmgaemaaaGreatDB10
import Derived.Test.YtiabbkjmgaemaaaGreatDB11
import Derived.Test.YtiabbkjmgaemaaaGreatDB12
import Derived.Test.YtiabbkjmgaemaaaGreatDB13
import Derived.Test.YtiabbkjmgaemaaaGreatDB14
import Derived.Test.YtiabbkjmgaemaaaGreatDB15
import Derived.Test.YtiabbkjmgaemaaaGreatDB16
import Derived.Test.YtiabbkjmgaemaaaGreatDB17
import Derived.Test.YtiabbkjmgaemaaaGreatDB18
import Derived.Test.YtiabbkjmgaemaaaGreatDB19
import Derived.Test.YtiabbkjmgaemaaaGreatDB20
import Derived.Test.YtiabbkjmgaemaaaGreatRows
import Derived.WalkKit
import Derived.ProofKit
import Derived.OpenShut
import Derived.ShutString
import Derived.ChangeOld
import Derived.Below
import Derived.Deep.DeepHandedRow
import Derived.Deep.Fields
import Derived.SizedLaws
namespace Go.Proofs.YtiabbkjmgaemaaaGreat
set_option linter.unusedVariables false
open Go.ChangeShapes Go.WideShapes Go.ChangeAt Go.RowKit Go.Deep

theorem own : ownKnob Tryz.prog.godebug = none := by kernel_rfl
theorem laidOut : laidOutB Tryz.prog = true := by kernel_rfl
theorem u32_bd {a : Int} (h : (Lit.int .u32 a).wf = true) : 0 ≤ a ∧ a ≤ 4294967295 := by
  have := bounds_u32 h; omega

section
variable {H : Type} {enc : TypeId × Value → H} {w : World} {base : Nat} {held : Bool}
theorem get_field {P : Program} {spare : Nat → Bool} {n : Nat} {fs : Array Field} {l : List Value} {xs : List (DataW H × List MemPlace)}
    (hg : ∀ (i : Nat) (f : Field), fs[i]? = some f → DataW.trod enc P w base spare held n f.type ((l.drop f.offset).take (P.cellsOf f.type)) = xs[i]?) (i : Nat) {f : Field} (off : Nat) (ty : TypeId) (k : Nat) (hf : fs[i]? = some f) (ho : f.offset = off) (ht : f.type = ty) (hk : P.cellsOf ty = k) (hlen : i < xs.length) :
    DataW.trod enc P w base spare held n ty ((l.drop off).take k) = some xs[i] := by
  have := hg i f hf
  rw [ho, ht, hk, List.getElem?_eq_getElem hlen] at this
  exact this
theorem weights_all {P : Program} {e : TypeId} : ∀ {l : List (DataW H)} {d : DataW H}, d ∈ l → ∀ n ∈ d.weights P e, n ∈ DataW.weightsAll P e l
  | d0 :: l, d, hd, n, hn => by
    unfold DataW.weightsAll
    rw [List.mem_append]
    rcases List.mem_cons.1 hd with rfl | hd
    · exact .inl hn
    · exact .inr (weights_all hd n hn)
theorem open_as {fuel : Nat} {c : Value} {y : DataW H × List MemPlace} (h : DataW.trod enc Tryz.prog w base (fun _ => true) held fuel 29 [c] = some y) (hz : ∀ n ∈ y.1.weights Tryz.prog 29, n ≤ reachBytes) :
    ∃ a cp xs, c = .slice a (List.length xs) cp ∧ As w a xs ∧ xs.length ≤ 1125899906842624 ∧ (a = none → cp = 0) := by
  rcases open_ints Tryz.underlying29 Tryz.underlying25 (by kernel_rfl) h with ⟨hcs, _⟩ | ⟨x, l, cp, zs, hcs, _, hl, hm, hzl, hx, hcell, hwz⟩
  · simp at hcs
    exact ⟨none, 0, [], hcs, As.nil _ _, by simp, fun _ => rfl⟩
  · simp at hcs hzl
    have hlen : (zs.take l).length = l := by rw [List.length_take]; omega
    have hget : ∀ k, k < l → (zs.take l).getD k 0 = zs.getD k 0 := by
      intro k hk
      rw [List.getD_eq_getElem?_getD, List.getD_eq_getElem?_getD, List.getElem?_take_of_lt hk]
    have hby : Tryz.prog.bytesOf 25 = 4 := by kernel_rfl
    have hw := hz ((l + (zs.length - l)) * 4) (by rw [hx]; simp [DataW.weights, Tryz.underlying29, lits, hby]; left; omega)
    refine ⟨some x, cp, zs.take l, by rw [hlen]; exact hcs, ⟨?_, ?_⟩, by rw [hlen]; unfold reachBytes at hw; omega, fun e => by cases e⟩
    · by_cases h0 : l = 0
      · subst h0; exact .inl (by simp)
      · obtain ⟨b, off, spot⟩ := x
        have hs : spot = none := by
          have := hcell 0 (by omega)
          simpa [Addr.add] using World.cell?_spot this
        subst hs
        refine .inr ⟨b, off, rfl, fun k hk => ?_⟩
        rw [hlen] at hk
        have := hcell k (by omega)
        rw [hget k hk, ← this, add_flat]
    · intro k hk
      rw [hlen] at hk
      rw [hget k hk]
      have hmem : zs.getD k 0 ∈ zs := by
        rw [List.getD_eq_getElem?_getD, List.getElem?_eq_getElem (by omega)]
        exact List.getElem_mem _
      exact u32_bd (hwz _ hmem)
theorem list_of {α : Type} (R : Nat → α → Prop) : ∀ n : Nat, (∀ i, i < n → ∃ r, R i r) → ∃ l : List α, l.length = n ∧ ∀ k r, l[k]? = some r → R k r
  | 0, _ => ⟨[], rfl, fun k r h => by simp at h⟩
  | n + 1, h => by
    obtain ⟨l, hl, hr⟩ := list_of R n fun i hi => h i (by omega)
    obtain ⟨r, hn⟩ := h n (by omega)
    refine ⟨l ++ [r], by simp [hl], fun k r' hk => ?_⟩
    by_cases h' : k < n
    · rw [List.getElem?_append_left (by omega)] at hk
      exact hr k r' hk
    · rw [List.getElem?_append_right (by omega)] at hk
      have e : k - l.length = 0 := by
        have := (List.getElem?_eq_some_iff.1 hk).1
        simp at this; omega
      rw [e] at hk
      simp at hk
      subst hk
      rwa [show k = n by omega]
set_option maxRecDepth 100000 in
/-- A row of addresses that came in. -/
theorem open_top {r : Reach} {b0 : Nat} {v : Value} {d : DataW H} {p : List MemPlace} (hv : Value.okWide Tryz.prog w r b0 29 v) (h : DataW.Trod enc Tryz.prog w base (fun _ => true) held 29 v d p) (hz : ∀ n ∈ d.weights Tryz.prog 29, n ≤ reachBytes) :
    ∃ (a : Option Addr) (cp : Nat) (xs : List Int), v = .slice a (List.length xs) cp ∧ As w a xs ∧ Flat a (List.length xs) cp ∧ List.length xs ≤ 1125899906842624 := by
  obtain ⟨a0, l0, c0, rfl⟩ := okWide_slice Tryz.underlying29 hv
  obtain ⟨fuel, hf⟩ := h
  obtain ⟨a, cp, xs, e, ha, hn, hc⟩ := open_as (c := .slice a0 l0 c0) (y := (d, p)) (by simpa [Value.cells] using hf) hz
  cases e
  refine ⟨a0, c0, xs, rfl, ha, ?_, hn⟩
  unfold Value.okWide at hv
  simp only [Tryz.underlying29] at hv
  unfold Cell.okWide at hv
  simp only [Tryz.underlying29] at hv
  unfold Cell.ok at hv
  simp only [Tryz.underlying29] at hv
  match a0, hc, ha, hv with
  | none, hc, ha, hv =>
    refine .inl ⟨rfl, ?_, hc rfl⟩
    rcases ha.1 with e | ⟨_, _, e, _⟩
    · rw [e]; rfl
    · cases e
  | some ⟨b, off, spot⟩, hc, ha, hv =>
    obtain ⟨_, _, _, hs, _⟩ := hv
    simp only at hs
    subst hs
    exact .inr ⟨b, off, rfl⟩
end
end Go.Proofs.YtiabbkjmgaemaaaGreat
/- What came in: databases. -/
namespace Go.Proofs.YtiabbkjmgaemaaaGreat
set_option linter.unusedVariables false
open Go.ChangeShapes Go.WideShapes Go.ChangeAt Go.RowKit Go.Deep

theorem i64_bd {a : Int} (h : (Lit.int .i64 a).wf = true) : -9223372036854775808 ≤ a ∧ a ≤ 9223372036854775807 := by
  have := bounds_i64 h; omega
section
variable {H : Type} {enc : TypeId × Value → H} {w : World} {base : Nat} {held : Bool}
theorem vweights_field {P : Program} {t : TypeId} {fs : Array Field} (ht : P.underlying t = some (.struct fs)) {xs : List (DataW H × List MemPlace)} {d : DataW H} (hd : d = .agg (xs.map (·.1))) (hz : ∀ n ∈ d.weights P t, n ≤ reachBytes) (i : Nat) {f : Field} (ty : TypeId) (hf : fs[i]? = some f) (hty : f.type = ty) (hlen : i < xs.length) :
    ∀ n ∈ (xs[i]).1.weights P ty, n ≤ reachBytes := by
  intro n hn
  refine hz n ?_
  rw [hd]
  unfold DataW.weights
  simp only [ht]
  refine DataW.weights_mem_each (j := i) ?_ (by rw [List.getElem?_map, List.getElem?_eq_getElem hlen]; rfl) n hn
  subst hty
  simp [hf]
theorem open_hd1 {fuel : Nat} {c0 c1 : Value} {y : DataW H × List MemPlace} (h : DataW.trod enc Tryz.prog w base (fun _ => true) held fuel 86 [c0, c1] = some y) :
    ∃ x : Hd, c0 = .int .u32 x.1 ∧ c1 = .int .i64 x.2 ∧ (0 ≤ x.1 ∧ x.1 ≤ 4294967295) ∧ -9223372036854775808 ≤ x.2 ∧ x.2 ≤ 9223372036854775807 := by
  obtain ⟨xs, n, _, hx, _, hlen, hg⟩ := DataW.trod_struct Tryz.underlying86 h
  have hl3 : xs.length = 2 := by rw [hlen]; rfl
  have g0 := get_field hg 0 0 25 1 rfl rfl rfl (by kernel_rfl) (by omega)
  have g1 := get_field hg 1 1 3 1 rfl rfl rfl (by kernel_rfl) (by omega)
  obtain ⟨t, q0, _, w0⟩ := DataW.trod_int Tryz.underlying25 g0
  obtain ⟨g, q1, _, w1⟩ := DataW.trod_int Tryz.underlying3 g1
  simp at q0 q1
  exact ⟨(t, g), q0, q1, u32_bd w0, i64_bd w1⟩
theorem open_tim1 {fuel : Nat} {c0 c1 : Value} {y : DataW H × List MemPlace} (h : DataW.trod enc Tryz.prog w base (fun _ => true) held fuel 23 [c0, c1] = some y) :
    ∃ kp la : Int, c0 = .int .i64 kp ∧ c1 = .int .i64 la := by
  obtain ⟨xs, n, _, hx, _, hlen, hg⟩ := DataW.trod_struct Tryz.underlying23 h
  have hl3 : xs.length = 2 := by rw [hlen]; rfl
  have g0 := get_field hg 0 0 3 1 rfl rfl rfl (by kernel_rfl) (by omega)
  have g1 := get_field hg 1 1 3 1 rfl rfl rfl (by kernel_rfl) (by omega)
  obtain ⟨t, q0, _, w0⟩ := DataW.trod_int Tryz.underlying3 g0
  obtain ⟨g, q1, _, w1⟩ := DataW.trod_int Tryz.underlying3 g1
  simp at q0 q1
  exact ⟨t, g, q0, q1⟩
set_option maxRecDepth 100000 in
theorem open_hds0 {fuel : Nat} {c : Value} {y : DataW H × List MemPlace} (h : DataW.trod enc Tryz.prog w base (fun _ => true) held fuel 26 [c] = some y) (hz : ∀ n ∈ y.1.weights Tryz.prog 26, n ≤ reachBytes) :
    ∃ (a : Option Addr) (cp : Nat) (s : List Hd), c = .slice a (List.length s) cp ∧ Hs w a s ∧ List.length s ≤ 1125899906842624 ∧ (a = none → cp = 0) := by
  have e3 : Tryz.prog.cellsOf 86 = 2 := by kernel_rfl
  have hby : Tryz.prog.bytesOf 86 = 16 := by kernel_rfl
  rcases open_slice Tryz.underlying26 h with ⟨hcs, _⟩ | ⟨⟨b, off, spot⟩, len, cap, m, n, D, Pl, hcs, _, hl, hm, hmm, hx, hi⟩
  · simp at hcs
    exact ⟨none, 0, [], hcs, Hs.nil _ _, by simp, fun _ => rfl⟩
  simp at hcs
  subst hcs
  rw [hx] at hz
  unfold DataW.weights at hz
  simp only [Tryz.underlying26] at hz
  have hw := hz _ (List.mem_cons_self ..)
  have hlen : len ≤ 1125899906842624 := by
    simp only [List.length_map, List.length_range, hby] at hw
    unfold reachBytes at hw
    omega
  have hs : 0 < len → spot = none := by
    intro h0
    obtain ⟨cs', hc, ht⟩ := hi 0 (by rw [hmm]; simp; omega)
    rw [e3] at hc
    obtain ⟨_, hcl, hat⟩ := World.cells?_some hc
    match cs', hcl with
    | [c0, c1], _ =>
    have a0 := hat 0 (by omega)
    have := World.cell?_spot a0
    simpa [Addr.add] using this
  by_cases h0 : len = 0
  · subst h0
    exact ⟨_, cap, [], rfl, Hs.nil _ _, by simp, fun e => (by cases e)⟩
  obtain rfl := hs (by omega)
  have each : ∀ i, i < len → ∃ x : Hd, HAt w b (off + i * 2) x ∧ (0 ≤ x.1 ∧ x.1 ≤ 4294967295) ∧ -9223372036854775808 ≤ x.2 ∧ x.2 ≤ 9223372036854775807 := by
    intro i hil
    obtain ⟨cs', hc, ht⟩ := hi i (by rw [hmm]; simp; omega)
    rw [e3] at hc
    obtain ⟨_, hcl, hat⟩ := World.cells?_some hc
    match cs', hcl with
    | [c0, c1], _ =>
    have a0 := hat 0 (by omega)
    have a1 := hat 1 (by omega)
    rw [add_flat, add_flat] at a0 a1
    obtain ⟨x, rfl, rfl, h1, h2⟩ := open_hd1 (y := (D i, Pl i)) ht
    exact ⟨x, ⟨a0, a1⟩, h1, h2⟩
  obtain ⟨s, hrl, hr⟩ := list_of (fun i x => HAt w b (off + i * 2) x ∧ (0 ≤ x.1 ∧ x.1 ≤ 4294967295) ∧ -9223372036854775808 ≤ x.2 ∧ x.2 ≤ 9223372036854775807) len each
  subst hrl
  exact ⟨_, cap, s, rfl, ⟨.inr ⟨b, off, rfl, fun k f hk => (hr k f hk).1⟩, fun f hf => by obtain ⟨i, hi, e⟩ := List.getElem_of_mem hf; exact (hr i f (by rw [List.getElem?_eq_getElem hi, e])).2⟩, hlen, fun e => (by cases e)⟩
theorem open_memb1 {fuel : Nat} {c0 c1 c2 c3 : Value} {y : DataW H × List MemPlace} (h : DataW.trod enc Tryz.prog w base (fun _ => true) held fuel 28 [c0, c1, c2, c3] = some y) (hz : ∀ n ∈ y.1.weights Tryz.prog 28, n ≤ reachBytes) :
    ∃ (g : Int) (ex : Bool) (left : Int) (a : Option Addr) (c : Nat) (s : List Hd), (c0 = .int .u32 g ∧ c1 = .bool ex ∧ c2 = .int .i64 left ∧ c3 = .slice a (List.length s) c) ∧ Hs w a s ∧ List.length s ≤ 1125899906842624 ∧ (a = none → c = 0) ∧ (0 ≤ g ∧ g ≤ 4294967295) := by
  obtain ⟨xs, n, _, hx, _, hlen, hg⟩ := DataW.trod_struct Tryz.underlying28 h
  have hl3 : xs.length = 4 := by rw [hlen]; rfl
  have g0 := get_field hg 0 0 25 1 rfl rfl rfl (by kernel_rfl) (by omega)
  have g1 := get_field hg 1 1 4 1 rfl rfl rfl (by kernel_rfl) (by omega)
  have g2 := get_field hg 2 2 3 1 rfl rfl rfl (by kernel_rfl) (by omega)
  have g3 := get_field hg 3 3 26 1 rfl rfl rfl (by kernel_rfl) (by omega)
  obtain ⟨g, q0, _, w0⟩ := DataW.trod_int Tryz.underlying25 g0
  obtain ⟨ex, q1, _⟩ := DataW.trod_bool Tryz.underlying4 g1
  obtain ⟨left, q2, _, _⟩ := DataW.trod_int Tryz.underlying3 g2
  have hw3 := vweights_field Tryz.underlying28 (xs := xs) (d := y.1) (by rw [hx]) hz 3 26 rfl rfl (by omega)
  obtain ⟨a, c, s, q3, hs, hn, hnil⟩ := open_hds0 g3 hw3
  simp at q0 q1 q2
  exact ⟨g, ex, left, a, c, s, ⟨q0, q1, q2, q3⟩, hs, hn, hnil, u32_bd w0⟩

theorem open_mleft {fuel : Nat} {c0 c1 c2 c3 : Value} {y : DataW H × List MemPlace} (h : DataW.trod enc Tryz.prog w base (fun _ => true) held fuel 28 [c0, c1, c2, c3] = some y) : ∀ left, c2 = .int .i64 left → isI left := by
  obtain ⟨xs, n, _, hx, _, hlen, hg⟩ := DataW.trod_struct Tryz.underlying28 h
  have hl3 : xs.length = 4 := by rw [hlen]; rfl
  have g2 := get_field hg 2 2 3 1 rfl rfl rfl (by kernel_rfl) (by omega)
  obtain ⟨left, q2, _, w2⟩ := DataW.trod_int Tryz.underlying3 g2
  simp at q2
  intro x hx2
  rw [q2] at hx2
  cases hx2
  exact i64_bd w2
set_option maxRecDepth 100000 in
theorem open_plc1 {fuel : Nat} {c0 c1 c2 c3 c4 c5 c6 : Value} {y : DataW H × List MemPlace} (h : DataW.trod enc Tryz.prog w base (fun _ => true) held fuel 77 [c0, c1, c2, c3, c4, c5, c6] = some y) (hz : ∀ n ∈ y.1.weights Tryz.prog 77, n ≤ reachBytes) :
    ∃ p : Plc, (c0 = .int .i64 p.port ∧ c1 = .int .i64 p.v1 ∧ c2 = .int .i64 p.v2 ∧ c3 = .int .u32 p.g ∧ c4 = .bool p.ex ∧ c5 = .int .i64 p.left ∧ c6 = p.sl) ∧ POk w p ∧ p.s.length ≤ 1125899906842624 := by
  obtain ⟨xs, n, _, hx, _, hlen, hg⟩ := DataW.trod_struct Tryz.underlying77 h
  have hl3 : xs.length = 4 := by rw [hlen]; rfl
  have g0 := get_field hg 0 0 3 1 rfl rfl rfl (by kernel_rfl) (by omega)
  have g1 := get_field hg 1 1 3 1 rfl rfl rfl (by kernel_rfl) (by omega)
  have g2 := get_field hg 2 2 3 1 rfl rfl rfl (by kernel_rfl) (by omega)
  have g3 := get_field hg 3 3 28 4 rfl rfl rfl (by kernel_rfl) (by omega)
  obtain ⟨po, q0, _, w0⟩ := DataW.trod_int Tryz.underlying3 g0
  obtain ⟨v1, q1, _, w1⟩ := DataW.trod_int Tryz.underlying3 g1
  obtain ⟨v2, q2, _, w2⟩ := DataW.trod_int Tryz.underlying3 g2
  have hw3 := vweights_field Tryz.underlying77 (xs := xs) (d := y.1) (by rw [hx]) hz 3 28 rfl rfl (by omega)
  have hmi := open_mleft (c0 := c3) (c1 := c4) (c2 := c5) (c3 := c6) (by simpa using g3)
  obtain ⟨g, ex, left, a, c, s, ⟨rfl, rfl, rfl, rfl⟩, hs, hn, hnil, hgb⟩ := open_memb1 (c0 := c3) (c1 := c4) (c2 := c5) (c3 := c6) (by simpa using g3) hw3
  simp at q0 q1 q2
  subst q0 q1 q2
  exact ⟨⟨po, v1, v2, g, ex, left, s, a, c⟩, ⟨rfl, rfl, rfl, rfl, rfl, rfl, rfl⟩, ⟨hs, ⟨⟨i64_bd w0, i64_bd w1, i64_bd w2⟩, hgb, hmi left rfl⟩⟩, hn⟩
set_option maxRecDepth 100000 in
theorem open_pls0 {fuel : Nat} {c : Value} {y : DataW H × List MemPlace} (h : DataW.trod enc Tryz.prog w base (fun _ => true) held fuel 44 [c] = some y) (hz : ∀ n ∈ y.1.weights Tryz.prog 44, n ≤ reachBytes) :
    ∃ (a : Option Addr) (cp : Nat) (l : List Plc), c = .slice a (List.length l) cp ∧ Pls w a l ∧ List.length l ≤ 1125899906842624 ∧ (∀ p ∈ l, p.s.length ≤ 1125899906842624) := by
  have e3 : Tryz.prog.cellsOf 77 = 7 := by kernel_rfl
  have hby : Tryz.prog.bytesOf 77 = 64 := by kernel_rfl
  rcases open_slice Tryz.underlying44 h with ⟨hcs, _⟩ | ⟨⟨b, off, spot⟩, len, cap, m, n, D, Pl, hcs, _, hl, hm, hmm, hx, hi⟩
  · simp at hcs
    exact ⟨none, 0, [], hcs, .inl rfl, by simp, by simp⟩
  simp at hcs
  subst hcs
  rw [hx] at hz
  unfold DataW.weights at hz
  simp only [Tryz.underlying44] at hz
  have hw := hz _ (List.mem_cons_self ..)
  have hlen : len ≤ 1125899906842624 := by
    simp only [List.length_map, List.length_range, hby] at hw
    unfold reachBytes at hw
    omega
  have hs : 0 < len → spot = none := by
    intro h0
    obtain ⟨cs', hc, ht⟩ := hi 0 (by rw [hmm]; simp; omega)
    rw [e3] at hc
    obtain ⟨_, hcl, hat⟩ := World.cells?_some hc
    match cs', hcl with
    | [c0, c1, c2, c3, c4, c5, c6], _ =>
    have a0 := hat 0 (by omega)
    have := World.cell?_spot a0
    simpa [Addr.add] using this
  by_cases h0 : len = 0
  · subst h0
    exact ⟨_, cap, [], rfl, .inl rfl, by simp, by simp⟩
  obtain rfl := hs (by omega)
  have each : ∀ i, i < len → ∃ p : Plc, PAt w b (off + i * 7) p ∧ p.s.length ≤ 1125899906842624 := by
    intro i hil
    obtain ⟨cs', hc, ht⟩ := hi i (by rw [hmm]; simp; omega)
    rw [e3] at hc
    obtain ⟨_, hcl, hat⟩ := World.cells?_some hc
    match cs', hcl with
    | [c0, c1, c2, c3, c4, c5, c6], _ =>
    have a0 := hat 0 (by omega)
    have a1 := hat 1 (by omega)
    have a2 := hat 2 (by omega)
    have a3 := hat 3 (by omega)
    have a4 := hat 4 (by omega)
    have a5 := hat 5 (by omega)
    have a6 := hat 6 (by omega)
    rw [add_flat, add_flat] at a0 a1 a2 a3 a4 a5 a6
    have hw2 : ∀ n ∈ (D i).weights Tryz.prog 77, n ≤ reachBytes := fun x hx' => hz x (List.mem_cons_of_mem _ (List.mem_append_left _ (weights_all (d := D i) (List.mem_map.2 ⟨i, List.mem_range.2 hil, rfl⟩) x hx')))
    obtain ⟨p, ⟨rfl, rfl, rfl, rfl, rfl, rfl, rfl⟩, hpo, hpn⟩ := open_plc1 (y := (D i, Pl i)) ht hw2
    exact ⟨p, ⟨⟨a0, a1, a2, a3, a4, a5, a6⟩, hpo⟩, hpn⟩
  obtain ⟨l, hrl, hr⟩ := list_of (fun i p => PAt w b (off + i * 7) p ∧ p.s.length ≤ 1125899906842624) len each
  subst hrl
  exact ⟨_, cap, l, rfl, .inr ⟨b, off, rfl, fun k p hk => (hr k p hk).1⟩, hlen, fun p hp => by obtain ⟨i, hi, e⟩ := List.getElem_of_mem hp; exact (hr i p (by rw [List.getElem?_eq_getElem hi, e])).2⟩
/-- What is known of places that came in. -/
def DIn (w : World) (a : Option Addr) (l : List Plc) : Prop := Pls w a l ∧ List.length l ≤ 1125899906842624 ∧ ∀ p ∈ l, p.s.length ≤ 1125899906842624
set_option maxRecDepth 100000 in
theorem open_db1 {fuel : Nat} {c0 c1 c2 c3 : Value} {y : DataW H × List MemPlace} (h : DataW.trod enc Tryz.prog w base (fun _ => true) held fuel 46 [c0, c1, c2, c3] = some y) (hz : ∀ n ∈ y.1.weights Tryz.prog 46, n ≤ reachBytes) :
    ∃ (kp la lim : Int) (a : Option Addr) (cp : Nat) (l : List Plc), (c0 = .int .i64 kp ∧ c1 = .int .i64 la ∧ c2 = .int .i64 lim ∧ c3 = .slice a (List.length l) cp) ∧ DIn w a l := by
  obtain ⟨xs, n, _, hx, _, hlen, hg⟩ := DataW.trod_struct Tryz.underlying46 h
  have hl3 : xs.length = 3 := by rw [hlen]; rfl
  have g0 := get_field hg 0 0 23 2 rfl rfl rfl (by kernel_rfl) (by omega)
  have g1 := get_field hg 1 2 3 1 rfl rfl rfl (by kernel_rfl) (by omega)
  have g2 := get_field hg 2 3 44 1 rfl rfl rfl (by kernel_rfl) (by omega)
  obtain ⟨kp, la, rfl, rfl⟩ := open_tim1 (c0 := c0) (c1 := c1) (by simpa using g0)
  obtain ⟨lim, q1, _, _⟩ := DataW.trod_int Tryz.underlying3 g1
  simp at q1
  subst q1
  have hw2 := vweights_field Tryz.underlying46 (xs := xs) (d := y.1) (by rw [hx]) hz 2 44 rfl rfl (by omega)
  obtain ⟨a, cp, l, rfl, h1, h2, h3⟩ := open_pls0 (c := c3) (by simpa using g2) hw2
  exact ⟨kp, la, lim, a, cp, l, ⟨rfl, rfl, rfl, rfl⟩, h1, h2, h3⟩
set_option maxRecDepth 100000 in
theorem open_db {r : Reach} {b0 : Nat} {v : Value} {d : DataW H} {p : List MemPlace} (hv : Value.okWide Tryz.prog w r b0 46 v) (h : DataW.Trod enc Tryz.prog w base (fun _ => true) held 46 v d p) (hz : ∀ n ∈ d.weights Tryz.prog 46, n ≤ reachBytes) :
    ∃ (kp la lim : Int) (a : Option Addr) (cp : Nat) (l : List Plc), v = .agg #[.int .i64 kp, .int .i64 la, .int .i64 lim, .slice a (List.length l) cp] ∧ DIn w a l := by
  obtain ⟨cs, rfl, hsz⟩ := okWide_struct Tryz.underlying46 hv
  obtain ⟨l⟩ := cs
  have hl : l.length = 4 := by
    have : Tryz.prog.cellsOf 46 = 4 := by kernel_rfl
    rw [← this, ← hsz]; rfl
  match l, hl with
  | [c0, c1, c2, c3], _ =>
  obtain ⟨fuel, hf⟩ := h
  obtain ⟨kp, la, lim, a, cp, l, ⟨rfl, rfl, rfl, rfl⟩, hin⟩ := open_db1 (y := (d, p)) (by simpa [Value.cells] using hf) hz
  exact ⟨kp, la, lim, a, cp, l, rfl, hin⟩
end
end Go.Proofs.YtiabbkjmgaemaaaGreat
/- Databases as time goes on (plain). -/
namespace Go.Proofs.YtiabbkjmgaemaaaGreat
set_option linter.unusedVariables false

section
variable {g kp la : Int} {ex : Bool} {left : Int} {s : List Hd} {xs : List Int}
theorem tk_addE {n m : Int} (hn : 0 ≤ n) (hm : 0 ≤ m) : tkE (tkE ex left n) (max (left - n) 0) m = tkE ex left (n + m) := by
  unfold tkE
  cases ex
  · rfl
  · simp only [Bool.true_and]
    by_cases h : 0 < max (left - (n + m)) 0
    · have h1 : 0 < max (left - n) 0 := by omega
      have h2 : 0 < max (max (left - n) 0 - m) 0 := by omega
      simp only [h, h1, h2, decide_true, Bool.true_and]
    · have h2 : ¬ 0 < max (max (left - n) 0 - m) 0 := by omega
      simp only [h, h2, decide_false, Bool.and_false]
theorem tk_addL {n m : Int} (hn : 0 ≤ n) (hm : 0 ≤ m) : max (max (left - n) 0 - m) 0 = max (left - (n + m)) 0 := by omega
theorem tk_addS {n m : Int} (hi : Inc (ad s)) (hnn : NN s) (hn : 0 ≤ n) (hm : 0 ≤ m) : tkS (tkE ex left n) (max (left - n) 0) (tkS ex left s n) m = tkS ex left s (n + m) := by
  refine s_ext (tkS_inc (tkS_inc hi)) (tkS_inc hi) tkS_nn tkS_nn fun a => ?_
  rw [lf_tkS (tkS_inc hi) tkS_nn, lf_tkS hi hnn, lf_tkS hi hnn, tk_addE hn hm]
  have hE : tkE ex left (n + m) = true → tkE ex left n = true := by
    unfold tkE
    cases ex
    · simp
    · simp only [Bool.true_and, decide_eq_true_eq]; omega
  by_cases hb : tkE ex left (n + m) = true
  · have hc := hE hb
    simp only [hb, hc, true_or, and_true]
    split <;> split <;> omega
  · simp only [hb, Bool.false_eq_true, false_or]
    by_cases hc : tkE ex left n = true
    · simp only [hc, true_or, and_true]
      split <;> split <;> split <;> omega
    · simp only [hc, Bool.false_eq_true, false_or]
      split <;> split <;> split <;> omega
theorem tk_zero (h : okM g ex left s) : tkE ex left 0 = ex ∧ max (left - 0) 0 = left ∧ tkS ex left s 0 = s := by
  have hl := h.left
  have e1 : tkE ex left 0 = ex := by
    unfold tkE
    cases ex
    · rfl
    · have := hl.2.2.1 rfl
      simp only [Bool.true_and, decide_eq_true_eq]; omega
  refine ⟨e1, by omega, s_ext (tkS_inc h.inc) h.inc tkS_nn h.nn fun a => ?_⟩
  rw [lf_tkS h.inc h.nn, e1]
  have hlow := lf_low h.nn a
  by_cases hm : a ∈ ad s
  · have hb := h.lb.lf hm
    cases ex
    · have : (1 : Int) ≤ lf s a := hb.1
      rw [if_pos ⟨by omega, .inr (by omega)⟩]; omega
    · have : (0 : Int) ≤ lf s a := hb.1
      rw [if_pos ⟨by omega, .inl rfl⟩]; omega
  · rw [lf_none hm, if_neg (fun k => by omega)]
end
theorem tkP_nm (t : Int) (p : Plc) : tkP t p.nm = tkP t p := rfl
theorem tickL_nm (l : List Plc) (t : Int) : tickL (l.map Plc.nm) t = tickL l t := by
  unfold tickL
  rw [List.map_map]
  rfl
theorem tkP_add {p : Plc} {a b : Int} (h : okP p) (ha : 0 ≤ a) (hb : 0 ≤ b) : tkP b (tkP a p) = tkP (a + b) p := by
  obtain ⟨po, v1, v2, g, ex, left, s, ad1, c⟩ := p
  obtain ⟨-, -, -, hm, -⟩ := h
  simp only at hm
  unfold tkP
  simp only
  rw [tk_addE ha hb, tk_addS hm.inc hm.nn ha hb, tk_addL ha hb, tk_addL ha hb, tk_addL ha hb]
theorem sm_tk {p : Plc} {b : Int} (h : sm (tkP b p) = true) : sm p = true := by
  unfold sm tkP at h
  simp only [Bool.or_eq_true, decide_eq_true_eq] at h
  unfold sm
  simp only [Bool.or_eq_true, decide_eq_true_eq]
  rcases h with h | h
  · left
    unfold tkE at h
    simp only [Bool.and_eq_true] at h
    exact h.1
  · right
    unfold tkS at h
    rw [List.length_map] at h
    exact Nat.lt_of_lt_of_le h (List.length_filter_le _ _)
theorem tickL_add {l : List Plc} {a b : Int} (h : ∀ p ∈ l, okP p) (ha : 0 ≤ a) (hb : 0 ≤ b) : tickL (tickL l a) b = tickL l (a + b) := by
  unfold tickL
  induction l with
  | nil => rfl
  | cons p r ih =>
    have hp := h p (by simp)
    have hr := ih (fun q hq => h q (List.mem_cons_of_mem _ hq))
    simp only [List.map_cons, List.filter_cons]
    by_cases h1 : sm (tkP a p) = true
    · rw [if_pos h1, List.map_cons, List.filter_cons, tkP_add hp ha hb, hr]
    · rw [if_neg h1, hr, if_neg (fun h2 => h1 (sm_tk (by rw [tkP_add hp ha hb]; exact h2)))]
theorem tickL_zero {l : List Plc} (h : ∀ p ∈ l, okP p) : tickL l 0 = l.map Plc.nm := by
  unfold tickL
  have e : l.map (tkP 0) = l.map Plc.nm := List.map_congr_left fun p hp => by
    obtain ⟨-, h1, h2, hm, -⟩ := h p hp
    obtain ⟨po, v1, v2, g, ex, left, s, ad1, c⟩ := p
    simp only at h1 h2 hm
    obtain ⟨k1, k2, k3⟩ := tk_zero hm
    unfold tkP Plc.nm
    simp only [k1, k2, k3, Plc.mk.injEq, and_true, true_and]
    exact ⟨by omega, by omega⟩
  rw [e, List.filter_eq_self]
  intro q hq
  obtain ⟨p, hp, rfl⟩ := List.mem_map.1 hq
  exact (h p hp).2.2.2.2
theorem tickL_ok {kp la lim t : Int} {l : List Plc} (h : okD kp la lim l) (ht : 0 ≤ t) : okD kp la lim (tickL l t) := by
  obtain ⟨h1, h2, h3, h4, h5⟩ := h
  refine ⟨h1, h2, ?_, ?_, ?_⟩
  · have : (tickL l t).length ≤ l.length := by
      unfold tickL
      exact Nat.le_trans (List.length_filter_le _ _) (by rw [List.length_map]; exact Nat.le_refl _)
    omega
  · unfold Ris9 tickL
    refine List.Pairwise.sublist List.filter_sublist ?_
    rw [List.pairwise_map]
    exact h4
  · intro q hq
    obtain ⟨hq1, hq2⟩ := List.mem_filter.1 hq
    obtain ⟨p, hp, rfl⟩ := List.mem_map.1 hq1
    obtain ⟨k1, k2, k3, k4, -⟩ := h5 p hp
    exact ⟨k1, by unfold tkP; simp only; omega, by unfold tkP; simp only; omega, tick_ok k4 ht, hq2⟩
theorem tickL_len (l : List Plc) (t : Int) : (tickL l t).length ≤ l.length := by
  unfold tickL
  exact Nat.le_trans (List.length_filter_le _ _) (by rw [List.length_map]; exact Nat.le_refl _)
theorem len_of {kp la lim : Int} {l N : List Plc} (h : okD kp la lim N) (e : l.map Plc.nm = N) : l.length ≤ 256 ∧ ∀ p ∈ l, p.s.length ≤ 64 := by
  subst e
  obtain ⟨h1, h2, h3, h4, h5⟩ := h
  rw [List.length_map] at h3
  refine ⟨by omega, fun p hp => ?_⟩
  have := (h5 _ (List.mem_map_of_mem hp)).2.2.2.1.2.1
  exact this
end Go.Proofs.YtiabbkjmgaemaaaGreat
