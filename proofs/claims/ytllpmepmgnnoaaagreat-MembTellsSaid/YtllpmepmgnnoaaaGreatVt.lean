/- What came in: sources that are kept, what is known, times; the laws' own arguments. -/
import Derived.Test.YtllpmepmgnnoaaaGreatPl
import Derived.Test.YtllpmepmgnnoaaaGreatVq
namespace Go.Proofs.YtllpmepmgnnoaaaGreat
set_option linter.unusedVariables false
open Go.ChangeShapes Go.WideShapes Go.ChangeAt Go.RowKit Go.Deep

theorem i64_bd {a : Int} (h : (Lit.int .i64 a).wf = true) : -9223372036854775808 ≤ a ∧ a ≤ 9223372036854775807 := by
  have := bounds_i64 h; omega
section
variable {H : Type} {enc : TypeId × Value → H} {w : World} {base : Nat} {held : Bool}
theorem vweights_field {P : Program} {t : TypeId} {fs : Array Field} (ht : P.underlying t = some (.struct fs)) {xs : List (DataW H × List MemPlace)} {d : DataW H} (hd : d = .agg (xs.map (·.1))) (hz : ∀ n ∈ d.weights P t, n ≤ reachBytes) (i : Nat) {f : Field} (ty : TypeId) (hf : fs[i]? = some f) (hty : f.type = ty) (hlen : i < xs.length) :
    ∀ n ∈ (xs[i]).1.weights P ty, n ≤ reachBytes := by
  intro n hn
  refine hz n ?_
  rw [hd]
  unfold DataW.weights
  simp only [ht]
  refine DataW.weights_mem_each (j := i) ?_ (by rw [List.getElem?_map, List.getElem?_eq_getElem hlen]; rfl) n hn
  subst hty
  simp [hf]
theorem open_hd1 {fuel : Nat} {c0 c1 : Value} {y : DataW H × List MemPlace} (h : DataW.trod enc Tryz.prog w base (fun _ => true) held fuel 50 [c0, c1] = some y) :
    ∃ x : Hd, c0 = .int .u32 x.1 ∧ c1 = .int .i64 x.2 ∧ (0 ≤ x.1 ∧ x.1 ≤ 4294967295) ∧ -9223372036854775808 ≤ x.2 ∧ x.2 ≤ 9223372036854775807 := by
  obtain ⟨xs, n, _, hx, _, hlen, hg⟩ := DataW.trod_struct Tryz.underlying50 h
  have hl3 : xs.length = 2 := by rw [hlen]; rfl
  have g0 := get_field hg 0 0 25 1 rfl rfl rfl (by kernel_rfl) (by omega)
  have g1 := get_field hg 1 1 3 1 rfl rfl rfl (by kernel_rfl) (by omega)
  obtain ⟨t, q0, _, w0⟩ := DataW.trod_int Tryz.underlying25 g0
  obtain ⟨g, q1, _, w1⟩ := DataW.trod_int Tryz.underlying3 g1
  simp at q0 q1
  exact ⟨(t, g), q0, q1, u32_bd w0, i64_bd w1⟩
theorem open_tim1 {fuel : Nat} {c0 c1 : Value} {y : DataW H × List MemPlace} (h : DataW.trod enc Tryz.prog w base (fun _ => true) held fuel 23 [c0, c1] = some y) :
    ∃ kp la : Int, c0 = .int .i64 kp ∧ c1 = .int .i64 la := by
  obtain ⟨xs, n, _, hx, _, hlen, hg⟩ := DataW.trod_struct Tryz.underlying23 h
  have hl3 : xs.length = 2 := by rw [hlen]; rfl
  have g0 := get_field hg 0 0 3 1 rfl rfl rfl (by kernel_rfl) (by omega)
  have g1 := get_field hg 1 1 3 1 rfl rfl rfl (by kernel_rfl) (by omega)
  obtain ⟨t, q0, _, w0⟩ := DataW.trod_int Tryz.underlying3 g0
  obtain ⟨g, q1, _, w1⟩ := DataW.trod_int Tryz.underlying3 g1
  simp at q0 q1
  exact ⟨t, g, q0, q1⟩
set_option maxRecDepth 100000 in
theorem open_hds0 {fuel : Nat} {c : Value} {y : DataW H × List MemPlace} (h : DataW.trod enc Tryz.prog w base (fun _ => true) held fuel 26 [c] = some y) (hz : ∀ n ∈ y.1.weights Tryz.prog 26, n ≤ reachBytes) :
    ∃ (a : Option Addr) (cp : Nat) (s : List Hd), c = .slice a (List.length s) cp ∧ Hs w a s ∧ List.length s ≤ 1125899906842624 ∧ (a = none → cp = 0) := by
  have e3 : Tryz.prog.cellsOf 50 = 2 := by kernel_rfl
  have hby : Tryz.prog.bytesOf 50 = 16 := by kernel_rfl
  rcases open_slice Tryz.underlying26 h with ⟨hcs, _⟩ | ⟨⟨b, off, spot⟩, len, cap, m, n, D, Pl, hcs, _, hl, hm, hmm, hx, hi⟩
  · simp at hcs
    exact ⟨none, 0, [], hcs, Hs.nil _ _, by simp, fun _ => rfl⟩
  simp at hcs
  subst hcs
  rw [hx] at hz
  unfold DataW.weights at hz
  simp only [Tryz.underlying26] at hz
  have hw := hz _ (List.mem_cons_self ..)
  have hlen : len ≤ 1125899906842624 := by
    simp only [List.length_map, List.length_range, hby] at hw
    unfold reachBytes at hw
    omega
  have hs : 0 < len → spot = none := by
    intro h0
    obtain ⟨cs', hc, ht⟩ := hi 0 (by rw [hmm]; simp; omega)
    rw [e3] at hc
    obtain ⟨_, hcl, hat⟩ := World.cells?_some hc
    match cs', hcl with
    | [c0, c1], _ =>
    have a0 := hat 0 (by omega)
    have := World.cell?_spot a0
    simpa [Addr.add] using this
  by_cases h0 : len = 0
  · subst h0
    exact ⟨_, cap, [], rfl, Hs.nil _ _, by simp, fun e => (by cases e)⟩
  obtain rfl := hs (by omega)
  have each : ∀ i, i < len → ∃ x : Hd, HAt w b (off + i * 2) x ∧ (0 ≤ x.1 ∧ x.1 ≤ 4294967295) ∧ -9223372036854775808 ≤ x.2 ∧ x.2 ≤ 9223372036854775807 := by
    intro i hil
    obtain ⟨cs', hc, ht⟩ := hi i (by rw [hmm]; simp; omega)
    rw [e3] at hc
    obtain ⟨_, hcl, hat⟩ := World.cells?_some hc
    match cs', hcl with
    | [c0, c1], _ =>
    have a0 := hat 0 (by omega)
    have a1 := hat 1 (by omega)
    rw [add_flat, add_flat] at a0 a1
    obtain ⟨x, rfl, rfl, h1, h2⟩ := open_hd1 (y := (D i, Pl i)) ht
    exact ⟨x, ⟨a0, a1⟩, h1, h2⟩
  obtain ⟨s, hrl, hr⟩ := list_of (fun i x => HAt w b (off + i * 2) x ∧ (0 ≤ x.1 ∧ x.1 ≤ 4294967295) ∧ -9223372036854775808 ≤ x.2 ∧ x.2 ≤ 9223372036854775807) len each
  subst hrl
  exact ⟨_, cap, s, rfl, ⟨.inr ⟨b, off, rfl, fun k f hk => (hr k f hk).1⟩, fun f hf => by obtain ⟨i, hi, e⟩ := List.getElem_of_mem hf; exact (hr i f (by rw [List.getElem?_eq_getElem hi, e])).2⟩, hlen, fun e => (by cases e)⟩
theorem open_memb1 {fuel : Nat} {c0 c1 c2 c3 : Value} {y : DataW H × List MemPlace} (h : DataW.trod enc Tryz.prog w base (fun _ => true) held fuel 28 [c0, c1, c2, c3] = some y) (hz : ∀ n ∈ y.1.weights Tryz.prog 28, n ≤ reachBytes) :
    ∃ (g : Int) (ex : Bool) (left : Int) (a : Option Addr) (c : Nat) (s : List Hd), (c0 = .int .u32 g ∧ c1 = .bool ex ∧ c2 = .int .i64 left ∧ c3 = .slice a (List.length s) c) ∧ Hs w a s ∧ List.length s ≤ 1125899906842624 ∧ (a = none → c = 0) ∧ (0 ≤ g ∧ g ≤ 4294967295) := by
  obtain ⟨xs, n, _, hx, _, hlen, hg⟩ := DataW.trod_struct Tryz.underlying28 h
  have hl3 : xs.length = 4 := by rw [hlen]; rfl
  have g0 := get_field hg 0 0 25 1 rfl rfl rfl (by kernel_rfl) (by omega)
  have g1 := get_field hg 1 1 4 1 rfl rfl rfl (by kernel_rfl) (by omega)
  have g2 := get_field hg 2 2 3 1 rfl rfl rfl (by kernel_rfl) (by omega)
  have g3 := get_field hg 3 3 26 1 rfl rfl rfl (by kernel_rfl) (by omega)
  obtain ⟨g, q0, _, w0⟩ := DataW.trod_int Tryz.underlying25 g0
  obtain ⟨ex, q1, _⟩ := DataW.trod_bool Tryz.underlying4 g1
  obtain ⟨left, q2, _, _⟩ := DataW.trod_int Tryz.underlying3 g2
  have hw3 := vweights_field Tryz.underlying28 (xs := xs) (d := y.1) (by rw [hx]) hz 3 26 rfl rfl (by omega)
  obtain ⟨a, c, s, q3, hs, hn, hnil⟩ := open_hds0 g3 hw3
  simp at q0 q1 q2
  exact ⟨g, ex, left, a, c, s, ⟨q0, q1, q2, q3⟩, hs, hn, hnil, u32_bd w0⟩
set_option maxRecDepth 100000 in
theorem open_hears {r : Reach} {b0 : Nat} {v : Value} {d : DataW H} {p : List MemPlace} (hv : Value.okWide Tryz.prog w r b0 31 v) (h : DataW.Trod enc Tryz.prog w base (fun _ => true) held 31 v d p) (hz : ∀ n ∈ d.weights Tryz.prog 31, n ≤ reachBytes) :
    ∃ (kp la : Int) (g : Int) (ex : Bool) (left : Int) (a : Option Addr) (c : Nat) (s : List Hd) (kind : Int) (b : Option Addr) (cb : Nat) (xs : List Int), v = .agg #[.int .i64 kp, .int .i64 la, .int .u32 g, .bool ex, .int .i64 left, .slice a (List.length s) c, .int .u8 kind, .slice b (List.length xs) cb] ∧ Hs w a s ∧ List.length s ≤ 1125899906842624 ∧ (a = none → c = 0) ∧ (0 ≤ g ∧ g ≤ 4294967295) ∧ As w b xs ∧ List.length xs ≤ 1125899906842624 ∧ (b = none → cb = 0) := by
  obtain ⟨cs, rfl, hsz⟩ := okWide_struct Tryz.underlying31 hv
  obtain ⟨l⟩ := cs
  have hl : l.length = 8 := by
    have : Tryz.prog.cellsOf 31 = 8 := by kernel_rfl
    rw [← this, ← hsz]; rfl
  match l, hl with
  | [c0, c1, c2, c3, c4, c5, c6, c7], _ =>
  obtain ⟨fuel, hf⟩ := h
  obtain ⟨xs, n, _, hx, _, hlen, hg⟩ := DataW.trod_struct Tryz.underlying31 hf
  have hln : xs.length = 4 := by rw [hlen]; rfl
  have g0 := get_field hg 0 0 23 2 rfl rfl rfl (by kernel_rfl) (by omega)
  have g1 := get_field hg 1 2 28 4 rfl rfl rfl (by kernel_rfl) (by omega)
  have g2 := get_field hg 2 6 5 1 rfl rfl rfl (by kernel_rfl) (by omega)
  have g3 := get_field hg 3 7 29 1 rfl rfl rfl (by kernel_rfl) (by omega)
  have hd : d = .agg (xs.map (·.1)) := by simpa using congrArg Prod.fst hx
  obtain ⟨kp, la, rfl, rfl⟩ := open_tim1 (c0 := c0) (c1 := c1) (by simpa [Value.cells] using g0)
  obtain ⟨g, ex, left, a, c, s, ⟨rfl, rfl, rfl, rfl⟩, hs, hn, hnil, hgb⟩ := open_memb1 (c0 := c2) (c1 := c3) (c2 := c4) (c3 := c5) (by simpa [Value.cells] using g1) (vweights_field Tryz.underlying31 hd hz 1 28 rfl rfl _)
  obtain ⟨kind, qk, _, _⟩ := DataW.trod_int Tryz.underlying5 g2
  simp [Value.cells] at qk
  subst qk
  obtain ⟨b, cb, xs', rfl, ha, hna, hnila⟩ := open_as (c := c7) (by simpa [Value.cells] using g3) (vweights_field Tryz.underlying31 hd hz 3 29 rfl rfl _)
  exact ⟨kp, la, g, ex, left, a, c, s, kind, b, cb, xs', rfl, hs, hn, hnil, hgb, ha, hna, hnila⟩
set_option maxRecDepth 100000 in
theorem open_tells {r : Reach} {b0 : Nat} {v : Value} {d : DataW H} {p : List MemPlace} (hv : Value.okWide Tryz.prog w r b0 45 v) (h : DataW.Trod enc Tryz.prog w base (fun _ => true) held 45 v d p) (hz : ∀ n ∈ d.weights Tryz.prog 45, n ≤ reachBytes) :
    ∃ (kp la : Int) (g : Int) (ex : Bool) (left : Int) (a : Option Addr) (c : Nat) (s : List Hd) (g2 : Int) (ex2 : Bool) (left2 : Int) (a2 : Option Addr) (c2' : Nat) (s2 : List Hd) (x : Int) (t : Int), v = .agg #[.int .i64 kp, .int .i64 la, .int .u32 g, .bool ex, .int .i64 left, .slice a (List.length s) c, .int .u32 g2, .bool ex2, .int .i64 left2, .slice a2 (List.length s2) c2', .int .u32 x, .int .i64 t] ∧ Hs w a s ∧ List.length s ≤ 1125899906842624 ∧ (a = none → c = 0) ∧ (0 ≤ g ∧ g ≤ 4294967295) ∧ Hs w a2 s2 ∧ List.length s2 ≤ 1125899906842624 ∧ (-9223372036854775808 ≤ t ∧ t ≤ 9223372036854775807) := by
  obtain ⟨cs, rfl, hsz⟩ := okWide_struct Tryz.underlying45 hv
  obtain ⟨l⟩ := cs
  have hl : l.length = 12 := by
    have : Tryz.prog.cellsOf 45 = 12 := by kernel_rfl
    rw [← this, ← hsz]; rfl
  match l, hl with
  | [c0, c1, c2, c3, c4, c5, c6, c7, c8, c9, c10, c11], _ =>
  obtain ⟨fuel, hf⟩ := h
  obtain ⟨xs, n, _, hx, _, hlen, hg⟩ := DataW.trod_struct Tryz.underlying45 hf
  have hln : xs.length = 5 := by rw [hlen]; rfl
  have g0 := get_field hg 0 0 23 2 rfl rfl rfl (by kernel_rfl) (by omega)
  have g1 := get_field hg 1 2 28 4 rfl rfl rfl (by kernel_rfl) (by omega)
  have g2 := get_field hg 2 6 28 4 rfl rfl rfl (by kernel_rfl) (by omega)
  have g3 := get_field hg 3 10 25 1 rfl rfl rfl (by kernel_rfl) (by omega)
  have g4 := get_field hg 4 11 3 1 rfl rfl rfl (by kernel_rfl) (by omega)
  have hd : d = .agg (xs.map (·.1)) := by simpa using congrArg Prod.fst hx
  obtain ⟨kp, la, rfl, rfl⟩ := open_tim1 (c0 := c0) (c1 := c1) (by simpa [Value.cells] using g0)
  obtain ⟨g, ex, left, a, c, s, ⟨rfl, rfl, rfl, rfl⟩, hs, hn, hnil, hgb⟩ := open_memb1 (c0 := c2) (c1 := c3) (c2 := c4) (c3 := c5) (by simpa [Value.cells] using g1) (vweights_field Tryz.underlying45 hd hz 1 28 rfl rfl _)
  obtain ⟨gm, ex2, left2, a2, c2', s2, ⟨rfl, rfl, rfl, rfl⟩, hs2, hn2, hnil2, hgb2⟩ := open_memb1 (c0 := c6) (c1 := c7) (c2 := c8) (c3 := c9) (by simpa [Value.cells] using g2) (vweights_field Tryz.underlying45 hd hz 2 28 rfl rfl _)
  obtain ⟨x, qx, _, wx⟩ := DataW.trod_int Tryz.underlying25 g3
  simp [Value.cells] at qx
  subst qx
  obtain ⟨t, qt, _, wt⟩ := DataW.trod_int Tryz.underlying3 g4
  simp [Value.cells] at qt
  subst qt
  exact ⟨kp, la, g, ex, left, a, c, s, gm, ex2, left2, a2, c2', s2, x, t, rfl, hs, hn, hnil, hgb, hs2, hn2, i64_bd wt⟩
end
end Go.Proofs.YtllpmepmgnnoaaaGreat
