/- What all laws of what is known ask first: the document's example. -/
import Derived.Test.YtllpmepmgnnoaaaY0
import Derived.Test.YtllpmepmgnnoaaaY1
import Derived.Test.YtllpmepmgnnoaaaY2
import Derived.Test.YtllpmepmgnnoaaaY3
import Derived.Test.YtllpmepmgnnoaaaY4
import Derived.Test.YtllpmepmgnnoaaaY5
import Derived.Test.YtllpmepmgnnoaaaY6
import Derived.Test.YtllpmepmgnnoaaaY7
import Derived.Test.YtllpmepmgnnoaaaY8
import Derived.Test.YtllpmepmgnnoaaaY9
import Derived.Test.YtllpmepmgnnoaaaY10
import Derived.Test.YtllpmepmgnnoaaaY11
import Derived.Test.YtllpmepmgnnoaaaY12
import Derived.Test.YtllpmepmgnnoaaaY13
namespace Go.Proofs.Ytllpmepmgnnoaaa
set_option linter.unusedVariables false
open Go.RowKit

theorem mk5 : mk [5] = [5] := by decide +kernel
theorem keep5 : keepS [] [5] 10 = [(5, 10)] := by decide +kernel
theorem hear5 : hearP 4009820675 10 2 false 0 [] 1 [5] = ⟨false, 0, [(5, 10)], [], 0⟩ := by
  unfold hearP
  rw [if_pos (.inl rfl)]
  unfold capH hAllow
  rw [mk5, keep5]
  rw [if_pos (by decide)]
theorem wants5 : wantsP false [(5, 10)] 5 = true := by decide +kernel
theorem wants6 : wantsP false [(5, 10)] 6 = false := by decide +kernel
theorem inc5 : Inc (ad [((5 : Int), (10 : Int))]) := by decide +kernel
set_option maxRecDepth 100000 in
set_option maxHeartbeats 8000000 in
theorem mShown (w : World) : Calls Try.prog 25 #[] w fun e w' => e = .returned (.bool true) ∧ Below w.heap.size w w' := by
  go_enter Try.func25, Try.ntmps25
  go_wp2_with fail
  have hb1 := bel1 w (.cells #[.int .i64 10, .int .i64 2] 45)
  have T1 := tim_new w (.int .i64 10) (.int .i64 2)
  have hN := as_new' (w.alloc (.cells #[.int .i64 10, .int .i64 2] 45)) [5] (isA_iff.2 (by simp))
  rw [World.size_alloc] at hN
  have hb2 := bel1 (w.alloc (.cells #[.int .i64 10, .int .i64 2] 45)) (.cells #[.int .u32 5] 26)
  have HB2 := Lib.hid (hb1.trans (hb2.mono hb1.size))
  have C0 := Lib.hid ((hb2.cell (cell_lt T1.1)).trans T1.1)
  have C1 := Lib.hid ((hb2.cell (cell_lt T1.2)).trans T1.2)
  have hc := mHear 1 10 2 4009820675 false 0 none 0 0 [] (some ⟨w.heap.size + 1, 0, none⟩) 1 1 [5] _ rfl (by decide) (Hs.nil _ _) (fun _ => rfl) inc_nil rfl (by decide) hN (fun e => by cases e) (by decide)
  rw [hear5] at hc
  clear hb1 T1 hN hb2
  refine hc.mono ?_
  rintro e w3 ⟨⟨a3, c3, aa, cc, rs, rfl, hH, hm, hq⟩, hb3⟩
  simp only at hH hm
  obtain rfl : rs = [] := List.map_eq_nil_iff.1 hm
  obtain ⟨b, off, rfl, hcs⟩ := hH.1.at (k := 0) (by decide)
  obtain ⟨h0, h1⟩ := hcs 0 (5, 10) rfl
  simp only [Nat.zero_mul, Nat.add_zero] at h0 h1
  have c0 := (hb3.cell (cell_lt C0.out)).trans C0.out
  have c1 := (hb3.cell (cell_lt C1.out)).trans C1.out
  have HB3 := Lib.hid (HB2.out.trans (hb3.mono HB2.out.size))
  have HH := Lib.hid hH.1
  clear hc hm hq hb3 hH hcs C0 C1 HB2
  have hb4 := bel1 w3 (.cells #[.int .u32 4009820675, .bool false, .int .i64 0, .slice (some ⟨b, off, none⟩) 1 c3] 48)
  have V4 := Lib.hid (MV.new w3 4009820675 false 0 (some ⟨b, off, none⟩) 1 c3)
  have C0 := Lib.hid ((hb4.cell (cell_lt c0)).trans c0)
  have C1 := Lib.hid ((hb4.cell (cell_lt c1)).trans c1)
  have HB4 := Lib.hid (HB3.out.trans (hb4.mono HB3.out.size))
  have HH4 := Lib.hid (HH.out.below hb4)
  have heq := heldEq 5 10 5 10
  replace h0 := (hb4.cell (cell_lt h0)).trans h0
  replace h1 := (hb4.cell (cell_lt h1)).trans h1
  clear hb4
  go_wp2_with fail
  have hw5 := mWants 4009820675 false 0 (some ⟨b, off, none⟩) 1 c3 [(5, 10)] 5 (w3.alloc (.cells #[.int .u32 4009820675, .bool false, .int .i64 0, .slice (some ⟨b, off, none⟩) 1 c3] 48)) rfl (by decide) HH4.out inc5 (by intro x hx; simp at hx; subst hx; decide)
  rw [wants5] at hw5
  refine hw5.mono ?_
  rintro e w5 ⟨rfl, hb5⟩
  clear hw5
  have V5 := Lib.hid (V4.out.below hb5 V4.out.lt)
  have D0 := Lib.hid ((hb5.cell (cell_lt C0.out)).trans C0.out)
  have D1 := Lib.hid ((hb5.cell (cell_lt C1.out)).trans C1.out)
  have HH5 := Lib.hid (HH4.out.below hb5)
  have HB5 := Lib.hid (HB4.out.trans (hb5.mono HB4.out.size))
  clear hb5 V4 C0 C1 HB4 HH4 h0 h1 c0 c1
  obtain ⟨c0, c1, c2, c3', -⟩ := V5.out.cells
  go_wp2_with fail
  have hw6 := mWants 4009820675 false 0 (some ⟨b, off, none⟩) 1 c3 [(5, 10)] 6 w5 rfl (by decide) HH5.out inc5 (by intro x hx; simp at hx; subst hx; decide)
  rw [wants6] at hw6
  refine hw6.mono ?_
  rintro e w6 ⟨rfl, hb6⟩
  clear hw6
  have V6 := Lib.hid (V5.out.below hb6 V5.out.lt)
  have E0 := Lib.hid ((hb6.cell (cell_lt D0.out)).trans D0.out)
  have E1 := Lib.hid ((hb6.cell (cell_lt D1.out)).trans D1.out)
  have HB6 := Lib.hid (HB5.out.trans (hb6.mono HB5.out.size))
  clear hb6 V5 D0 D1 HB5 HH5 c0 c1 c2 c3'
  obtain ⟨c0, c1, c2, c3', -⟩ := V6.out.cells
  go_wp2_with fail
  refine (mSome 4009820675 false 0 (some ⟨b, off, none⟩) 1 c3 w6).mono ?_
  rintro e w7 ⟨rfl, hb7⟩
  have F0 := Lib.hid ((hb7.cell (cell_lt E0.out)).trans E0.out)
  have F1 := Lib.hid ((hb7.cell (cell_lt E1.out)).trans E1.out)
  have HB7 := Lib.hid (HB6.out.trans (hb7.mono HB6.out.size))
  clear hb7 V6 E0 E1 HB6 c0 c1 c2 c3'
  have c0 := F0.out
  have c1 := F1.out
  go_wp2_with fail
  refine (mMay 10 2 w7).mono ?_
  rintro e w8 ⟨rfl, hb8⟩
  have HB8 := Lib.hid (HB7.out.trans (hb8.mono HB7.out.size))
  have hd : decide (mayP 10 2) = true := by decide
  clear hb8 c0 c1
  rw [hd]
  go_wp2_with fail
  go_ret
  exact ⟨rfl, HB8.out⟩
end Go.Proofs.Ytllpmepmgnnoaaa
/- What came in: sources that are kept, what is known, times; the laws' own arguments. -/
namespace Go.Proofs.Ytllpmepmgnnoaaa
set_option linter.unusedVariables false
open Go.ChangeShapes Go.WideShapes Go.ChangeAt Go.RowKit Go.Deep

theorem i64_bd {a : Int} (h : (Lit.int .i64 a).wf = true) : -9223372036854775808 ≤ a ∧ a ≤ 9223372036854775807 := by
  have := bounds_i64 h; omega
section
variable {H : Type} {enc : TypeId × Value → H} {w : World} {base : Nat} {held : Bool}
theorem vweights_field {P : Program} {t : TypeId} {fs : Array Field} (ht : P.underlying t = some (.struct fs)) {xs : List (DataW H × List MemPlace)} {d : DataW H} (hd : d = .agg (xs.map (·.1))) (hz : ∀ n ∈ d.weights P t, n ≤ reachBytes) (i : Nat) {f : Field} (ty : TypeId) (hf : fs[i]? = some f) (hty : f.type = ty) (hlen : i < xs.length) :
    ∀ n ∈ (xs[i]).1.weights P ty, n ≤ reachBytes := by
  intro n hn
  refine hz n ?_
  rw [hd]
  unfold DataW.weights
  simp only [ht]
  refine DataW.weights_mem_each (j := i) ?_ (by rw [List.getElem?_map, List.getElem?_eq_getElem hlen]; rfl) n hn
  subst hty
  simp [hf]
theorem open_hd1 {fuel : Nat} {c0 c1 : Value} {y : DataW H × List MemPlace} (h : DataW.trod enc Try.prog w base (fun _ => true) held fuel 77 [c0, c1] = some y) :
    ∃ x : Hd, c0 = .int .u32 x.1 ∧ c1 = .int .i64 x.2 ∧ (0 ≤ x.1 ∧ x.1 ≤ 4294967295) ∧ -9223372036854775808 ≤ x.2 ∧ x.2 ≤ 9223372036854775807 := by
  obtain ⟨xs, n, _, hx, _, hlen, hg⟩ := DataW.trod_struct Try.underlying77 h
  have hl3 : xs.length = 2 := by rw [hlen]; rfl
  have g0 := get_field hg 0 0 26 1 rfl rfl rfl (by kernel_rfl) (by omega)
  have g1 := get_field hg 1 1 3 1 rfl rfl rfl (by kernel_rfl) (by omega)
  obtain ⟨t, q0, _, w0⟩ := DataW.trod_int Try.underlying26 g0
  obtain ⟨g, q1, _, w1⟩ := DataW.trod_int Try.underlying3 g1
  simp at q0 q1
  exact ⟨(t, g), q0, q1, u32_bd w0, i64_bd w1⟩
theorem open_tim1 {fuel : Nat} {c0 c1 : Value} {y : DataW H × List MemPlace} (h : DataW.trod enc Try.prog w base (fun _ => true) held fuel 45 [c0, c1] = some y) :
    ∃ kp la : Int, c0 = .int .i64 kp ∧ c1 = .int .i64 la := by
  obtain ⟨xs, n, _, hx, _, hlen, hg⟩ := DataW.trod_struct Try.underlying45 h
  have hl3 : xs.length = 2 := by rw [hlen]; rfl
  have g0 := get_field hg 0 0 3 1 rfl rfl rfl (by kernel_rfl) (by omega)
  have g1 := get_field hg 1 1 3 1 rfl rfl rfl (by kernel_rfl) (by omega)
  obtain ⟨t, q0, _, w0⟩ := DataW.trod_int Try.underlying3 g0
  obtain ⟨g, q1, _, w1⟩ := DataW.trod_int Try.underlying3 g1
  simp at q0 q1
  exact ⟨t, g, q0, q1⟩
set_option maxRecDepth 100000 in
theorem open_hds0 {fuel : Nat} {c : Value} {y : DataW H × List MemPlace} (h : DataW.trod enc Try.prog w base (fun _ => true) held fuel 46 [c] = some y) (hz : ∀ n ∈ y.1.weights Try.prog 46, n ≤ reachBytes) :
    ∃ (a : Option Addr) (cp : Nat) (s : List Hd), c = .slice a (List.length s) cp ∧ Hs w a s ∧ List.length s ≤ 1125899906842624 ∧ (a = none → cp = 0) := by
  have e3 : Try.prog.cellsOf 77 = 2 := by kernel_rfl
  have hby : Try.prog.bytesOf 77 = 16 := by kernel_rfl
  rcases open_slice Try.underlying46 h with ⟨hcs, _⟩ | ⟨⟨b, off, spot⟩, len, cap, m, n, D, Pl, hcs, _, hl, hm, hmm, hx, hi⟩
  · simp at hcs
    exact ⟨none, 0, [], hcs, Hs.nil _ _, by simp, fun _ => rfl⟩
  simp at hcs
  subst hcs
  rw [hx] at hz
  unfold DataW.weights at hz
  simp only [Try.underlying46] at hz
  have hw := hz _ (List.mem_cons_self ..)
  have hlen : len ≤ 1125899906842624 := by
    simp only [List.length_map, List.length_range, hby] at hw
    unfold reachBytes at hw
    omega
  have hs : 0 < len → spot = none := by
    intro h0
    obtain ⟨cs', hc, ht⟩ := hi 0 (by rw [hmm]; simp; omega)
    rw [e3] at hc
    obtain ⟨_, hcl, hat⟩ := World.cells?_some hc
    match cs', hcl with
    | [c0, c1], _ =>
    have a0 := hat 0 (by omega)
    have := World.cell?_spot a0
    simpa [Addr.add] using this
  by_cases h0 : len = 0
  · subst h0
    exact ⟨_, cap, [], rfl, Hs.nil _ _, by simp, fun e => (by cases e)⟩
  obtain rfl := hs (by omega)
  have each : ∀ i, i < len → ∃ x : Hd, HAt w b (off + i * 2) x ∧ (0 ≤ x.1 ∧ x.1 ≤ 4294967295) ∧ -9223372036854775808 ≤ x.2 ∧ x.2 ≤ 9223372036854775807 := by
    intro i hil
    obtain ⟨cs', hc, ht⟩ := hi i (by rw [hmm]; simp; omega)
    rw [e3] at hc
    obtain ⟨_, hcl, hat⟩ := World.cells?_some hc
    match cs', hcl with
    | [c0, c1], _ =>
    have a0 := hat 0 (by omega)
    have a1 := hat 1 (by omega)
    rw [add_flat, add_flat] at a0 a1
    obtain ⟨x, rfl, rfl, h1, h2⟩ := open_hd1 (y := (D i, Pl i)) ht
    exact ⟨x, ⟨a0, a1⟩, h1, h2⟩
  obtain ⟨s, hrl, hr⟩ := list_of (fun i x => HAt w b (off + i * 2) x ∧ (0 ≤ x.1 ∧ x.1 ≤ 4294967295) ∧ -9223372036854775808 ≤ x.2 ∧ x.2 ≤ 9223372036854775807) len each
  subst hrl
  exact ⟨_, cap, s, rfl, ⟨.inr ⟨b, off, rfl, fun k f hk => (hr k f hk).1⟩, fun f hf => by obtain ⟨i, hi, e⟩ := List.getElem_of_mem hf; exact (hr i f (by rw [List.getElem?_eq_getElem hi, e])).2⟩, hlen, fun e => (by cases e)⟩
theorem open_memb1 {fuel : Nat} {c0 c1 c2 c3 : Value} {y : DataW H × List MemPlace} (h : DataW.trod enc Try.prog w base (fun _ => true) held fuel 48 [c0, c1, c2, c3] = some y) (hz : ∀ n ∈ y.1.weights Try.prog 48, n ≤ reachBytes) :
    ∃ (g : Int) (ex : Bool) (left : Int) (a : Option Addr) (c : Nat) (s : List Hd), (c0 = .int .u32 g ∧ c1 = .bool ex ∧ c2 = .int .i64 left ∧ c3 = .slice a (List.length s) c) ∧ Hs w a s ∧ List.length s ≤ 1125899906842624 ∧ (a = none → c = 0) ∧ (0 ≤ g ∧ g ≤ 4294967295) := by
  obtain ⟨xs, n, _, hx, _, hlen, hg⟩ := DataW.trod_struct Try.underlying48 h
  have hl3 : xs.length = 4 := by rw [hlen]; rfl
  have g0 := get_field hg 0 0 26 1 rfl rfl rfl (by kernel_rfl) (by omega)
  have g1 := get_field hg 1 1 4 1 rfl rfl rfl (by kernel_rfl) (by omega)
  have g2 := get_field hg 2 2 3 1 rfl rfl rfl (by kernel_rfl) (by omega)
  have g3 := get_field hg 3 3 46 1 rfl rfl rfl (by kernel_rfl) (by omega)
  obtain ⟨g, q0, _, w0⟩ := DataW.trod_int Try.underlying26 g0
  obtain ⟨ex, q1, _⟩ := DataW.trod_bool Try.underlying4 g1
  obtain ⟨left, q2, _, _⟩ := DataW.trod_int Try.underlying3 g2
  have hw3 := vweights_field Try.underlying48 (xs := xs) (d := y.1) (by rw [hx]) hz 3 46 rfl rfl (by omega)
  obtain ⟨a, c, s, q3, hs, hn, hnil⟩ := open_hds0 g3 hw3
  simp at q0 q1 q2
  exact ⟨g, ex, left, a, c, s, ⟨q0, q1, q2, q3⟩, hs, hn, hnil, u32_bd w0⟩
set_option maxRecDepth 100000 in
theorem open_keeps {r : Reach} {b0 : Nat} {v : Value} {d : DataW H} {p : List MemPlace} (hv : Value.okWide Try.prog w r b0 62 v) (h : DataW.Trod enc Try.prog w base (fun _ => true) held 62 v d p) (hz : ∀ n ∈ d.weights Try.prog 62, n ≤ reachBytes) :
    ∃ (kp la : Int) (g : Int) (b : Option Addr) (cb : Nat) (xs : List Int) (x : Int) (t : Int), v = .agg #[.int .i64 kp, .int .i64 la, .int .u32 g, .slice b (List.length xs) cb, .int .u32 x, .int .i64 t] ∧ (0 ≤ g ∧ g ≤ 4294967295) ∧ As w b xs ∧ List.length xs ≤ 1125899906842624 ∧ (b = none → cb = 0) ∧ (-9223372036854775808 ≤ t ∧ t ≤ 9223372036854775807) := by
  obtain ⟨cs, rfl, hsz⟩ := okWide_struct Try.underlying62 hv
  obtain ⟨l⟩ := cs
  have hl : l.length = 6 := by
    have : Try.prog.cellsOf 62 = 6 := by kernel_rfl
    rw [← this, ← hsz]; rfl
  match l, hl with
  | [c0, c1, c2, c3, c4, c5], _ =>
  obtain ⟨fuel, hf⟩ := h
  obtain ⟨xs, n, _, hx, _, hlen, hg⟩ := DataW.trod_struct Try.underlying62 hf
  have hln : xs.length = 5 := by rw [hlen]; rfl
  have g0 := get_field hg 0 0 45 2 rfl rfl rfl (by kernel_rfl) (by omega)
  have g1 := get_field hg 1 2 26 1 rfl rfl rfl (by kernel_rfl) (by omega)
  have g2 := get_field hg 2 3 27 1 rfl rfl rfl (by kernel_rfl) (by omega)
  have g3 := get_field hg 3 4 26 1 rfl rfl rfl (by kernel_rfl) (by omega)
  have g4 := get_field hg 4 5 3 1 rfl rfl rfl (by kernel_rfl) (by omega)
  have hd : d = .agg (xs.map (·.1)) := by simpa using congrArg Prod.fst hx
  obtain ⟨kp, la, rfl, rfl⟩ := open_tim1 (c0 := c0) (c1 := c1) (by simpa [Value.cells] using g0)
  obtain ⟨g, qg, _, wg⟩ := DataW.trod_int Try.underlying26 g1
  simp [Value.cells] at qg
  subst qg
  obtain ⟨b, cb, xs', rfl, ha, hna, hnila⟩ := open_as (c := c3) (by simpa [Value.cells] using g2) (vweights_field Try.underlying62 hd hz 2 27 rfl rfl _)
  obtain ⟨x, qx, _, wx⟩ := DataW.trod_int Try.underlying26 g3
  simp [Value.cells] at qx
  subst qx
  obtain ⟨t, qt, _, wt⟩ := DataW.trod_int Try.underlying3 g4
  simp [Value.cells] at qt
  subst qt
  exact ⟨kp, la, g, b, cb, xs', x, t, rfl, u32_bd wg, ha, hna, hnila, i64_bd wt⟩
set_option maxRecDepth 100000 in
theorem open_adds {r : Reach} {b0 : Nat} {v : Value} {d : DataW H} {p : List MemPlace} (hv : Value.okWide Try.prog w r b0 67 v) (h : DataW.Trod enc Try.prog w base (fun _ => true) held 67 v d p) (hz : ∀ n ∈ d.weights Try.prog 67, n ≤ reachBytes) :
    ∃ (kp la : Int) (g : Int) (ex : Bool) (left : Int) (a : Option Addr) (c : Nat) (s : List Hd) (b : Option Addr) (cb : Nat) (xs : List Int) (x : Int), v = .agg #[.int .i64 kp, .int .i64 la, .int .u32 g, .bool ex, .int .i64 left, .slice a (List.length s) c, .slice b (List.length xs) cb, .int .u32 x] ∧ Hs w a s ∧ List.length s ≤ 1125899906842624 ∧ (a = none → c = 0) ∧ (0 ≤ g ∧ g ≤ 4294967295) ∧ As w b xs ∧ List.length xs ≤ 1125899906842624 ∧ (b = none → cb = 0) := by
  obtain ⟨cs, rfl, hsz⟩ := okWide_struct Try.underlying67 hv
  obtain ⟨l⟩ := cs
  have hl : l.length = 8 := by
    have : Try.prog.cellsOf 67 = 8 := by kernel_rfl
    rw [← this, ← hsz]; rfl
  match l, hl with
  | [c0, c1, c2, c3, c4, c5, c6, c7], _ =>
  obtain ⟨fuel, hf⟩ := h
  obtain ⟨xs, n, _, hx, _, hlen, hg⟩ := DataW.trod_struct Try.underlying67 hf
  have hln : xs.length = 4 := by rw [hlen]; rfl
  have g0 := get_field hg 0 0 45 2 rfl rfl rfl (by kernel_rfl) (by omega)
  have g1 := get_field hg 1 2 48 4 rfl rfl rfl (by kernel_rfl) (by omega)
  have g2 := get_field hg 2 6 27 1 rfl rfl rfl (by kernel_rfl) (by omega)
  have g3 := get_field hg 3 7 26 1 rfl rfl rfl (by kernel_rfl) (by omega)
  have hd : d = .agg (xs.map (·.1)) := by simpa using congrArg Prod.fst hx
  obtain ⟨kp, la, rfl, rfl⟩ := open_tim1 (c0 := c0) (c1 := c1) (by simpa [Value.cells] using g0)
  obtain ⟨g, ex, left, a, c, s, ⟨rfl, rfl, rfl, rfl⟩, hs, hn, hnil, hgb⟩ := open_memb1 (c0 := c2) (c1 := c3) (c2 := c4) (c3 := c5) (by simpa [Value.cells] using g1) (vweights_field Try.underlying67 hd hz 1 48 rfl rfl _)
  obtain ⟨b, cb, xs', rfl, ha, hna, hnila⟩ := open_as (c := c6) (by simpa [Value.cells] using g2) (vweights_field Try.underlying67 hd hz 2 27 rfl rfl _)
  obtain ⟨x, qx, _, wx⟩ := DataW.trod_int Try.underlying26 g3
  simp [Value.cells] at qx
  subst qx
  exact ⟨kp, la, g, ex, left, a, c, s, b, cb, xs', x, rfl, hs, hn, hnil, hgb, ha, hna, hnila⟩
set_option maxRecDepth 100000 in
theorem open_turns {r : Reach} {b0 : Nat} {v : Value} {d : DataW H} {p : List MemPlace} (hv : Value.okWide Try.prog w r b0 69 v) (h : DataW.Trod enc Try.prog w base (fun _ => true) held 69 v d p) (hz : ∀ n ∈ d.weights Try.prog 69, n ≤ reachBytes) :
    ∃ (kp la : Int) (g : Int) (ex : Bool) (left : Int) (a : Option Addr) (c : Nat) (s : List Hd) (b : Option Addr) (cb : Nat) (xs : List Int) (x : Int), v = .agg #[.int .i64 kp, .int .i64 la, .int .u32 g, .bool ex, .int .i64 left, .slice a (List.length s) c, .slice b (List.length xs) cb, .int .u32 x] ∧ Hs w a s ∧ List.length s ≤ 1125899906842624 ∧ (a = none → c = 0) ∧ (0 ≤ g ∧ g ≤ 4294967295) ∧ As w b xs ∧ List.length xs ≤ 1125899906842624 ∧ (b = none → cb = 0) := by
  obtain ⟨cs, rfl, hsz⟩ := okWide_struct Try.underlying69 hv
  obtain ⟨l⟩ := cs
  have hl : l.length = 8 := by
    have : Try.prog.cellsOf 69 = 8 := by kernel_rfl
    rw [← this, ← hsz]; rfl
  match l, hl with
  | [c0, c1, c2, c3, c4, c5, c6, c7], _ =>
  obtain ⟨fuel, hf⟩ := h
  obtain ⟨xs, n, _, hx, _, hlen, hg⟩ := DataW.trod_struct Try.underlying69 hf
  have hln : xs.length = 4 := by rw [hlen]; rfl
  have g0 := get_field hg 0 0 45 2 rfl rfl rfl (by kernel_rfl) (by omega)
  have g1 := get_field hg 1 2 48 4 rfl rfl rfl (by kernel_rfl) (by omega)
  have g2 := get_field hg 2 6 27 1 rfl rfl rfl (by kernel_rfl) (by omega)
  have g3 := get_field hg 3 7 26 1 rfl rfl rfl (by kernel_rfl) (by omega)
  have hd : d = .agg (xs.map (·.1)) := by simpa using congrArg Prod.fst hx
  obtain ⟨kp, la, rfl, rfl⟩ := open_tim1 (c0 := c0) (c1 := c1) (by simpa [Value.cells] using g0)
  obtain ⟨g, ex, left, a, c, s, ⟨rfl, rfl, rfl, rfl⟩, hs, hn, hnil, hgb⟩ := open_memb1 (c0 := c2) (c1 := c3) (c2 := c4) (c3 := c5) (by simpa [Value.cells] using g1) (vweights_field Try.underlying69 hd hz 1 48 rfl rfl _)
  obtain ⟨b, cb, xs', rfl, ha, hna, hnila⟩ := open_as (c := c6) (by simpa [Value.cells] using g2) (vweights_field Try.underlying69 hd hz 2 27 rfl rfl _)
  obtain ⟨x, qx, _, wx⟩ := DataW.trod_int Try.underlying26 g3
  simp [Value.cells] at qx
  subst qx
  exact ⟨kp, la, g, ex, left, a, c, s, b, cb, xs', x, rfl, hs, hn, hnil, hgb, ha, hna, hnila⟩
set_option maxRecDepth 100000 in
theorem open_asks {r : Reach} {b0 : Nat} {v : Value} {d : DataW H} {p : List MemPlace} (hv : Value.okWide Try.prog w r b0 72 v) (h : DataW.Trod enc Try.prog w base (fun _ => true) held 72 v d p) (hz : ∀ n ∈ d.weights Try.prog 72, n ≤ reachBytes) :
    ∃ (kp la : Int) (g : Int) (ex : Bool) (left : Int) (a : Option Addr) (c : Nat) (s : List Hd) (kind : Int) (b : Option Addr) (cb : Nat) (xs : List Int), v = .agg #[.int .i64 kp, .int .i64 la, .int .u32 g, .bool ex, .int .i64 left, .slice a (List.length s) c, .int .u8 kind, .slice b (List.length xs) cb] ∧ Hs w a s ∧ List.length s ≤ 1125899906842624 ∧ (a = none → c = 0) ∧ (0 ≤ g ∧ g ≤ 4294967295) ∧ As w b xs ∧ List.length xs ≤ 1125899906842624 ∧ (b = none → cb = 0) := by
  obtain ⟨cs, rfl, hsz⟩ := okWide_struct Try.underlying72 hv
  obtain ⟨l⟩ := cs
  have hl : l.length = 8 := by
    have : Try.prog.cellsOf 72 = 8 := by kernel_rfl
    rw [← this, ← hsz]; rfl
  match l, hl with
  | [c0, c1, c2, c3, c4, c5, c6, c7], _ =>
  obtain ⟨fuel, hf⟩ := h
  obtain ⟨xs, n, _, hx, _, hlen, hg⟩ := DataW.trod_struct Try.underlying72 hf
  have hln : xs.length = 4 := by rw [hlen]; rfl
  have g0 := get_field hg 0 0 45 2 rfl rfl rfl (by kernel_rfl) (by omega)
  have g1 := get_field hg 1 2 48 4 rfl rfl rfl (by kernel_rfl) (by omega)
  have g2 := get_field hg 2 6 5 1 rfl rfl rfl (by kernel_rfl) (by omega)
  have g3 := get_field hg 3 7 27 1 rfl rfl rfl (by kernel_rfl) (by omega)
  have hd : d = .agg (xs.map (·.1)) := by simpa using congrArg Prod.fst hx
  obtain ⟨kp, la, rfl, rfl⟩ := open_tim1 (c0 := c0) (c1 := c1) (by simpa [Value.cells] using g0)
  obtain ⟨g, ex, left, a, c, s, ⟨rfl, rfl, rfl, rfl⟩, hs, hn, hnil, hgb⟩ := open_memb1 (c0 := c2) (c1 := c3) (c2 := c4) (c3 := c5) (by simpa [Value.cells] using g1) (vweights_field Try.underlying72 hd hz 1 48 rfl rfl _)
  obtain ⟨kind, qk, _, _⟩ := DataW.trod_int Try.underlying5 g2
  simp [Value.cells] at qk
  subst qk
  obtain ⟨b, cb, xs', rfl, ha, hna, hnila⟩ := open_as (c := c7) (by simpa [Value.cells] using g3) (vweights_field Try.underlying72 hd hz 3 27 rfl rfl _)
  exact ⟨kp, la, g, ex, left, a, c, s, kind, b, cb, xs', rfl, hs, hn, hnil, hgb, ha, hna, hnila⟩
set_option maxRecDepth 100000 in
theorem open_stays {r : Reach} {b0 : Nat} {v : Value} {d : DataW H} {p : List MemPlace} (hv : Value.okWide Try.prog w r b0 51 v) (h : DataW.Trod enc Try.prog w base (fun _ => true) held 51 v d p) (hz : ∀ n ∈ d.weights Try.prog 51, n ≤ reachBytes) :
    ∃ (kp la : Int) (g : Int) (ex : Bool) (left : Int) (a : Option Addr) (c : Nat) (s : List Hd) (kind : Int) (b : Option Addr) (cb : Nat) (xs : List Int) (t u : Int), v = .agg #[.int .i64 kp, .int .i64 la, .int .u32 g, .bool ex, .int .i64 left, .slice a (List.length s) c, .int .u8 kind, .slice b (List.length xs) cb, .int .i64 t, .int .i64 u] ∧ Hs w a s ∧ List.length s ≤ 1125899906842624 ∧ (a = none → c = 0) ∧ (0 ≤ g ∧ g ≤ 4294967295) ∧ As w b xs ∧ List.length xs ≤ 1125899906842624 ∧ (b = none → cb = 0) ∧ (-9223372036854775808 ≤ t ∧ t ≤ 9223372036854775807) ∧ (-9223372036854775808 ≤ u ∧ u ≤ 9223372036854775807) := by
  obtain ⟨cs, rfl, hsz⟩ := okWide_struct Try.underlying51 hv
  obtain ⟨l⟩ := cs
  have hl : l.length = 10 := by
    have : Try.prog.cellsOf 51 = 10 := by kernel_rfl
    rw [← this, ← hsz]; rfl
  match l, hl with
  | [c0, c1, c2, c3, c4, c5, c6, c7, c8, c9], _ =>
  obtain ⟨fuel, hf⟩ := h
  obtain ⟨xs, n, _, hx, _, hlen, hg⟩ := DataW.trod_struct Try.underlying51 hf
  have hln : xs.length = 5 := by rw [hlen]; rfl
  have g0 := get_field hg 0 0 45 2 rfl rfl rfl (by kernel_rfl) (by omega)
  have g1 := get_field hg 1 2 48 4 rfl rfl rfl (by kernel_rfl) (by omega)
  have g2 := get_field hg 2 6 5 1 rfl rfl rfl (by kernel_rfl) (by omega)
  have g3 := get_field hg 3 7 27 1 rfl rfl rfl (by kernel_rfl) (by omega)
  have g4 := get_field hg 4 8 49 2 rfl rfl rfl (by kernel_rfl) (by omega)
  have hd : d = .agg (xs.map (·.1)) := by simpa using congrArg Prod.fst hx
  obtain ⟨kp, la, rfl, rfl⟩ := open_tim1 (c0 := c0) (c1 := c1) (by simpa [Value.cells] using g0)
  obtain ⟨g, ex, left, a, c, s, ⟨rfl, rfl, rfl, rfl⟩, hs, hn, hnil, hgb⟩ := open_memb1 (c0 := c2) (c1 := c3) (c2 := c4) (c3 := c5) (by simpa [Value.cells] using g1) (vweights_field Try.underlying51 hd hz 1 48 rfl rfl _)
  obtain ⟨kind, qk, _, _⟩ := DataW.trod_int Try.underlying5 g2
  simp [Value.cells] at qk
  subst qk
  obtain ⟨b, cb, xs', rfl, ha, hna, hnila⟩ := open_as (c := c7) (by simpa [Value.cells] using g3) (vweights_field Try.underlying51 hd hz 3 27 rfl rfl _)
  obtain ⟨ys, m2, _, hy, _, hl2, hf2⟩ := DataW.trod_array Try.underlying49 g4
  have ei : Try.prog.cellsOf 3 = 1 := by kernel_rfl
  have f0 := hf2 0 (by omega)
  have f1 := hf2 1 (by omega)
  rw [ei] at f0 f1
  rw [List.getElem?_eq_getElem (by omega)] at f0 f1
  obtain ⟨t, qt, _, wt⟩ := DataW.trod_int Try.underlying3 f0
  obtain ⟨u, qu, _, wu⟩ := DataW.trod_int Try.underlying3 f1
  simp [Value.cells] at qt qu
  subst qt qu
  exact ⟨kp, la, g, ex, left, a, c, s, kind, b, cb, xs', t, u, rfl, hs, hn, hnil, hgb, ha, hna, hnila, i64_bd wt, i64_bd wu⟩
end
end Go.Proofs.Ytllpmepmgnnoaaa
/- What records and time make of what is known: plain facts. -/
namespace Go.Proofs.Ytllpmepmgnnoaaa
set_option linter.unusedVariables false

def lo (ex : Bool) : Int := if ex then 0 else 1
def LB (s : List Hd) (l h : Int) : Prop := ∀ x ∈ s, l ≤ x.2 ∧ x.2 ≤ h
theorem lb_ok {ex : Bool} {s : List Hd} : (∀ x ∈ s, okX ex x) ↔ LB s (lo ex) 1000000 := by
  unfold okX LB lo
  cases ex
  · exact ⟨fun h x hx => by have := h x hx; have h2 := this.2 rfl; simp only [Bool.false_eq_true, if_false]; omega, fun h x hx => by have := h x hx; simp only [Bool.false_eq_true, if_false] at this; exact ⟨by omega, fun _ => by omega⟩⟩
  · exact ⟨fun h x hx => by have := h x hx; simp only [if_true]; omega, fun h x hx => by have := h x hx; simp only [if_true] at this; exact ⟨by omega, fun h => by cases h⟩⟩
theorem LB.nn {s : List Hd} {l h : Int} (hb : LB s l h) (hl : 0 ≤ l) : NN s := fun x hx => by have := hb x hx; omega
theorem LB.weak {s : List Hd} {l h l' : Int} (hb : LB s l h) (hl : l' ≤ l) : LB s l' h := fun x hx => by have := hb x hx; omega
theorem LB.lf {s : List Hd} {l h : Int} (hb : LB s l h) {a : Int} (hm : a ∈ ad s) : l ≤ lf s a ∧ lf s a ≤ h := hb _ (lf_in hm)
theorem keepS_lb {s : List Hd} {B : List Int} {T l h : Int} (hi : Inc (ad s)) (hB : Inc B) (hb : LB s l h) (hT : l ≤ T ∧ T ≤ h) : LB (keepS s B T) l h := by
  intro x hx
  obtain ⟨a, ha, rfl⟩ := List.mem_map.1 hx
  show l ≤ (if a ∈ B then T else lf s a) ∧ (if a ∈ B then T else lf s a) ≤ h
  split
  · exact hT
  · rename_i hn
    exact hb.lf (((uni_mem hi hB a).1 ha).resolve_right hn)
theorem filter_lb {s : List Hd} {l h : Int} (p : Hd → Bool) (hb : LB s l h) : LB (s.filter p) l h := fun x hx => hb x (List.mem_filter.1 hx).1
theorem exS_lb {s : List Hd} {B : List Int} {T l h : Int} (hi : Inc (ad s)) (hB : Inc B) (hb : LB s l h) (hT : l ≤ T ∧ T ≤ h) : LB (exS s B T) l h :=
  keepS_lb (ad_filter_inc _ hi) (dif_inc hB hi) (filter_lb _ hb) hT
theorem askS_lb {s : List Hd} {B : List Int} {T l h : Int} (hi : Inc (ad s)) (hB : Inc B) (hb : LB s l h) (hT : l ≤ T ∧ T ≤ h) : LB (askS s T B) l h := by
  unfold askS
  split
  · exact hb
  · exact keepS_lb hi (int_inc hB (ad_filter_inc _ hi)) hb hT
theorem lf_exS {s : List Hd} {B : List Int} {T : Int} (hi : Inc (ad s)) (hB : Inc B) (hn : NN s) (a : Int) : lf (exS s B T) a = if a ∈ B then (if 0 ≤ lf s a then lf s a else T) else -1 := by
  unfold exS
  rw [keepS_lf (ad_filter_inc _ hi) (dif_inc hB hi) (nn_filter _ hn), lf_filter _ hi hn]
  have hd := dif_mem hB hi a
  have hg := lf_ge hn (a := a)
  by_cases h1 : a ∈ B
  · by_cases h2 : 0 ≤ lf s a
    · rw [if_neg (fun h => (hd.1 h).2 (hg.1 h2)), if_pos ⟨h2, by simpa using h1⟩, if_pos h1, if_pos h2]
    · rw [if_pos (hd.2 ⟨h1, fun h => h2 (hg.2 h)⟩), if_pos h1, if_neg h2]
  · rw [if_neg (fun h => h1 (hd.1 h).1), if_neg (fun h => h1 (by simpa using h.2)), if_neg h1]
theorem lf_askS {s : List Hd} {B : List Int} {la : Int} (hi : Inc (ad s)) (hB : Inc B) (hn : NN s) (hl : 0 ≤ la) (a : Int) : lf (askS s la B) a = if a ∈ B ∧ la < lf s a then la else lf s a := by
  unfold askS
  split
  · rename_i h
    subst h
    rw [if_neg (fun h => by simp at h)]
  · rw [keepS_lf hi (int_inc hB (ad_filter_inc _ hi)) hn]
    have hm := int_mem hB (ad_filter_inc (fun x : Hd => decide (la < x.2)) hi) a
    rw [filter_mem _ hi hn] at hm
    by_cases h : a ∈ B ∧ la < lf s a
    · rw [if_pos h, if_pos (hm.2 ⟨h.1, by omega, by simpa using h.2⟩)]
    · rw [if_neg h, if_neg (fun k => h ⟨(hm.1 k).1, by simpa using (hm.1 k).2.2⟩)]
theorem wantS_mem {s : List Hd} (hi : Inc (ad s)) (hn : NN s) (a : Int) : a ∈ wantS s ↔ 0 < lf s a := by
  unfold wantS
  rw [filter_mem _ hi hn]
  simp only [decide_eq_true_eq]
  omega
theorem tkS_inc {ex : Bool} {left n : Int} {s : List Hd} (hi : Inc (ad s)) : Inc (ad (tkS ex left s n)) := by rw [tkS_ad]; exact ad_filter_inc _ hi
theorem tkS_nn {ex : Bool} {left n : Int} {s : List Hd} : NN (tkS ex left s n) := by
  intro x hx
  obtain ⟨y, _, rfl⟩ := List.mem_map.1 hx
  show 0 ≤ max _ _
  omega
theorem lf_tkS {ex : Bool} {left n : Int} {s : List Hd} (hi : Inc (ad s)) (hn : NN s) (a : Int) : lf (tkS ex left s n) a = if 0 ≤ lf s a ∧ (tkE ex left n = true ∨ n < lf s a) then max (lf s a - n) 0 else -1 := by
  have hm := filter_mem (fun x : Hd => tkE ex left n || decide (n < x.2)) hi hn a
  simp only [Bool.or_eq_true, decide_eq_true_eq] at hm
  by_cases h : 0 ≤ lf s a ∧ (tkE ex left n = true ∨ n < lf s a)
  · rw [if_pos h]
    refine lf_of (tkS_inc hi) ?_
    unfold tkS
    refine List.mem_map.2 ⟨(a, lf s a), List.mem_filter.2 ⟨lf_in ((lf_ge hn).1 h.1), ?_⟩, rfl⟩
    simpa using h.2
  · rw [if_neg h]
    refine lf_none fun hx => h ?_
    rw [tkS_ad] at hx
    exact hm.1 hx
theorem tkS_lb {ex : Bool} {left n : Int} {s : List Hd} (hb : LB s (lo ex) 1000000) (h0 : 0 ≤ n) : LB (tkS ex left s n) (lo (tkE ex left n)) 1000000 := by
  intro x hx
  obtain ⟨y, hy, rfl⟩ := List.mem_map.1 hx
  obtain ⟨hy, hp⟩ := List.mem_filter.1 hy
  have := hb y hy
  have hl : 0 ≤ lo ex := by unfold lo; split <;> omega
  show lo _ ≤ max (y.2 - n) 0 ∧ max (y.2 - n) 0 ≤ 1000000
  refine ⟨?_, by omega⟩
  cases he : tkE ex left n
  · rw [he] at hp
    simp only [Bool.false_or, decide_eq_true_eq] at hp
    unfold lo
    simp only [Bool.false_eq_true, if_false]
    omega
  · unfold lo
    simp only [if_true]
    omega
theorem okM.lb {g : Int} {ex : Bool} {left : Int} {s : List Hd} (h : okM g ex left s) : LB s (lo ex) 1000000 := lb_ok.1 h.2.2.2.1
theorem lo_nn (ex : Bool) : 0 ≤ lo ex := by unfold lo; split <;> omega
theorem okM.nn {g : Int} {ex : Bool} {left : Int} {s : List Hd} (h : okM g ex left s) : NN s := h.lb.nn (lo_nn ex)
theorem okM.inc {g : Int} {ex : Bool} {left : Int} {s : List Hd} (h : okM g ex left s) : Inc (ad s) := h.2.2.2.2
theorem okM.left {g : Int} {ex : Bool} {left : Int} {s : List Hd} (h : okM g ex left s) : 0 ≤ left ∧ left ≤ 1000000 ∧ (ex = true → 1 ≤ left) ∧ (ex = false → left = 0) := by
  have hl := h.2.2.1
  unfold okL at hl
  cases ex
  · simp only [Bool.false_eq_true, if_false] at hl
    exact ⟨by omega, by omega, fun h => by (cases h), fun _ => hl⟩
  · simp only [if_true] at hl
    exact ⟨by omega, by omega, fun _ => hl.1, fun h => by (cases h)⟩
theorem tick_ok {g : Int} {ex : Bool} {left n : Int} {s : List Hd} (h : okM g ex left s) (hn : 0 ≤ n) : okM g (tkE ex left n) (max (left - n) 0) (tkS ex left s n) := by
  refine ⟨h.1, ?_, ?_, lb_ok.2 (tkS_lb h.lb hn), tkS_inc h.inc⟩
  · unfold tkS
    rw [List.length_map]
    exact Nat.le_trans (List.length_filter_le _ _) h.2.1
  · have hl := h.left
    unfold okL tkE
    cases ex
    · have := hl.2.2.2 rfl
      simp only [Bool.false_and, Bool.false_eq_true, if_false]
      omega
    · have := hl.2.2.1 rfl
      by_cases hp : 0 < max (left - n) 0
      · simp only [Bool.true_and, hp, decide_true, if_true]; omega
      · simp only [Bool.true_and, hp, decide_false, Bool.false_eq_true, if_false]; omega
theorem cap_ok {g : Int} {ex : Bool} {left : Int} {s : List Hd} {r : Hr} (h : okM g ex left s) (hr : r.s.length ≤ 64 → okM g r.ex r.left r.s) : okM g (capH ex left s r).ex (capH ex left s r).left (capH ex left s r).s := by
  unfold capH
  split
  · rename_i hl; exact hr hl
  · exact h
theorem hear_ok {g kp la : Int} {ex : Bool} {left : Int} {s : List Hd} (kind : Int) (xs : List Int) (ht : mayP kp la) (h : okM g ex left s) :
    okM g (hearP g kp la ex left s kind xs).ex (hearP g kp la ex left s kind xs).left (hearP g kp la ex left s kind xs).s := by
  have hB := mk_inc xs
  have hi := h.inc
  have hb := h.lb
  have hl := h.left
  obtain ⟨t1, t2, t3⟩ := ht
  have hlo : lo ex ≤ 1 := by unfold lo; split <;> omega
  have hT : lo ex ≤ la ∧ la ≤ 1000000 := ⟨by omega, by omega⟩
  have hK : lo ex ≤ kp ∧ kp ≤ 1000000 := ⟨by omega, by omega⟩
  have hb0 : LB s 0 1000000 := hb.weak (lo_nn ex)
  have okt : ∀ {s' : List Hd} {l' : Int}, s'.length ≤ 64 → 1 ≤ l' ∧ l' ≤ 1000000 → LB s' 0 1000000 → Inc (ad s') → okM g true l' s' := fun h1 h2 h3 h4 => ⟨h.1, h1, h2, lb_ok.2 h3, h4⟩
  unfold hearP
  split
  · exact cap_ok h fun h64 => ⟨h.1, h64, h.2.2.1, lb_ok.2 (keepS_lb hi hB hb hK), keepS_inc _ hi hB⟩
  split
  · refine cap_ok h fun h64 => okt h64 ⟨by show 1 ≤ kp; omega, t3⟩ (exS_lb hi hB hb0 ?_) (exS_inc _ hi hB)
    split <;> omega
  split
  · refine cap_ok h fun h64 => ⟨h.1, h64, ?_, lb_ok.2 (askS_lb (keepS_inc _ hi hB) (dif_inc (wantS_inc (keepS_inc _ hi hB)) hB) (keepS_lb hi hB hb hK) hT), askS_inc _ (keepS_inc _ hi hB) (dif_inc (wantS_inc (keepS_inc _ hi hB)) hB)⟩
    have h3 := h.2.2.1
    unfold hToIn okL at *
    cases ex
    · simpa using h3
    · simp only [if_true] at h3 ⊢; omega
  split
  · refine cap_ok h fun h64 => okt h64 ⟨by show 1 ≤ kp; omega, t3⟩ (askS_lb (exS_inc _ hi hB) (wantS_inc (exS_inc _ hi hB)) (exS_lb hi hB hb0 ⟨hl.1, hl.2.1⟩) ⟨by omega, by omega⟩) (askS_inc _ (exS_inc _ hi hB) (wantS_inc (exS_inc _ hi hB)))
  split
  · refine cap_ok h fun h64 => ?_
    cases ex
    · simp only [hBlock, Bool.false_eq_true, if_false] at h64 ⊢
      exact ⟨h.1, h64, h.2.2.1, lb_ok.2 (askS_lb hi (int_inc hB (wantS_inc hi)) hb hT), askS_inc _ hi (int_inc hB (wantS_inc hi))⟩
    · simp only [hBlock, if_true] at h64 ⊢
      have hi2 := keepS_inc (s := s) (l := dif (mk xs) (ad s)) left hi (dif_inc hB hi)
      exact ⟨h.1, h64, h.2.2.1, lb_ok.2 (askS_lb hi2 (int_inc hB (wantS_inc hi2)) (keepS_lb hi (dif_inc hB hi) hb ⟨by have := hl.2.2.1 rfl; show (0 : Int) ≤ left; omega, hl.2.1⟩) hT), askS_inc _ hi2 (int_inc hB (wantS_inc hi2))⟩
  · exact h
end Go.Proofs.Ytllpmepmgnnoaaa
/- What is wanted behind records and time: plain facts of the laws. -/
namespace Go.Proofs.Ytllpmepmgnnoaaa
set_option linter.unusedVariables false

theorem wants_iff {ex : Bool} {s : List Hd} {x : Int} : wantsP ex s x = true ↔ (0 ≤ lf s x ∧ (ex = false ∨ 0 < lf s x)) ∨ (lf s x < 0 ∧ ex = true) := by
  unfold wantsP
  split
  · rename_i h
    cases ex <;> simp <;> omega
  · rename_i h
    cases ex <;> simp <;> omega
theorem cap_er {ex : Bool} {left : Int} {s : List Hd} {r : Hr} (h : (capH ex left s r).er = 0) : capH ex left s r = r := by
  unfold capH at *
  split
  · rfl
  · rename_i h1; rw [if_neg h1] at h; cases h
theorem hearP5 (g kp la : Int) (ex : Bool) (left : Int) (s : List Hd) (xs : List Int) : hearP g kp la ex left s 5 xs = capH ex left s (hAllow g kp la ex left s (mk xs)) := if_pos (.inr rfl)
theorem hearP1 (g kp la : Int) (ex : Bool) (left : Int) (s : List Hd) (xs : List Int) : hearP g kp la ex left s 1 xs = capH ex left s (hAllow g kp la ex left s (mk xs)) := if_pos (.inl rfl)
theorem hearP2 (g kp la : Int) (ex : Bool) (left : Int) (s : List Hd) (xs : List Int) : hearP g kp la ex left s 2 xs = capH ex left s (hIsEx g kp la ex left s (mk xs)) := by unfold hearP; rw [if_neg (by decide), if_pos rfl]
theorem hearP3 (g kp la : Int) (ex : Bool) (left : Int) (s : List Hd) (xs : List Int) : hearP g kp la ex left s 3 xs = capH ex left s (hToIn g kp la ex left s (mk xs)) := by unfold hearP; rw [if_neg (by decide), if_neg (by decide), if_pos rfl]
theorem hearP4 (g kp la : Int) (ex : Bool) (left : Int) (s : List Hd) (xs : List Int) : hearP g kp la ex left s 4 xs = capH ex left s (hToEx g kp la ex left s (mk xs)) := by unfold hearP; rw [if_neg (by decide), if_neg (by decide), if_neg (by decide), if_pos rfl]
theorem hearP6 (g kp la : Int) (ex : Bool) (left : Int) (s : List Hd) (xs : List Int) : hearP g kp la ex left s 6 xs = capH ex left s (hBlock g kp la ex left s (mk xs)) := by unfold hearP; rw [if_neg (by decide), if_neg (by decide), if_neg (by decide), if_neg (by decide), if_pos rfl]
theorem bool_eq {a b : Bool} (h : a = true ↔ b = true) : a = b := by cases a <;> cases b <;> simp_all
section
variable {g kp la : Int} {ex : Bool} {left : Int} {s : List Hd} {xs : List Int}
theorem adds_allow (ht : mayP kp la) (h : okM g ex left s) (x : Int) (he : (hearP g kp la ex left s 5 xs).er = 0) :
    wantsP (hearP g kp la ex left s 5 xs).ex (hearP g kp la ex left s 5 xs).s x = (wantsP ex s x || decide (x ∈ xs)) := by
  rw [hearP5] at he ⊢
  rw [cap_er he]
  refine bool_eq ?_
  rw [Bool.or_eq_true, wants_iff, wants_iff, decide_eq_true_iff]
  obtain ⟨t1, t2, t3⟩ := ht
  simp only [hAllow]
  rw [keepS_lf h.inc (mk_inc xs) h.nn]
  have hm := mk_mem x xs
  by_cases hx : x ∈ xs
  · rw [if_pos (hm.2 hx)]
    simp only [hx, or_true, iff_true]
    left; omega
  · rw [if_neg (fun k => hx (hm.1 k))]
    simp only [hx, or_false]
/-- The sources ahead of what Block asks. -/
def blS (ex : Bool) (left : Int) (s : List Hd) (B : List Int) : List Hd := if ex then keepS s (dif B (ad s)) left else s
theorem blS_inc (h : okM g ex left s) {B : List Int} (hB : Inc B) : Inc (ad (blS ex left s B)) := by
  unfold blS
  split
  · exact keepS_inc _ h.inc (dif_inc hB h.inc)
  · exact h.inc
theorem blS_nn (h : okM g ex left s) {B : List Int} (hB : Inc B) : NN (blS ex left s B) := by
  unfold blS
  split
  · exact keepS_nn (by have := h.left; omega) h.inc (dif_inc hB h.inc) h.nn
  · exact h.nn
theorem blS_lf (h : okM g ex left s) {B : List Int} (hB : Inc B) (x : Int) : lf (blS ex left s B) x = if ex = true ∧ x ∈ B ∧ lf s x < 0 then left else lf s x := by
  unfold blS
  have hg := lf_ge h.nn (a := x)
  by_cases he : ex = true
  · rw [if_pos he, keepS_lf h.inc (dif_inc hB h.inc) h.nn]
    have hd := dif_mem hB h.inc x
    by_cases hx : x ∈ B ∧ lf s x < 0
    · rw [if_pos (hd.2 ⟨hx.1, fun k => by have := hg.2 k; omega⟩), if_pos ⟨he, hx⟩]
    · rw [if_neg (fun k => hx ⟨(hd.1 k).1, by have h2 : ¬ 0 ≤ lf s x := fun k2 => (hd.1 k).2 (hg.1 k2); omega⟩), if_neg (fun k => hx k.2)]
  · rw [if_neg he, if_neg (fun k => he k.1)]
theorem block_s (g kp la : Int) (ex : Bool) (left : Int) (s : List Hd) (B : List Int) : (hBlock g kp la ex left s B).s = askS (blS ex left s B) la (int B (wantS (blS ex left s B))) := rfl
theorem block_lf (ht : mayP kp la) (h : okM g ex left s) (x : Int) : lf (hBlock g kp la ex left s (mk xs)).s x = if x ∈ xs ∧ la < lf (blS ex left s (mk xs)) x then la else lf (blS ex left s (mk xs)) x := by
  have hB := mk_inc xs
  have i1 := blS_inc h hB
  have n1 := blS_nn h hB
  rw [block_s, lf_askS i1 (int_inc hB (wantS_inc i1)) n1 (by have := ht.1; omega)]
  have hm := int_mem hB (wantS_inc i1) x
  rw [wantS_mem i1 n1, mk_mem] at hm
  have := ht.1
  by_cases hx : x ∈ xs ∧ la < lf (blS ex left s (mk xs)) x
  · rw [if_pos ⟨hm.2 ⟨hx.1, by omega⟩, hx.2⟩, if_pos hx]
  · rw [if_neg (fun k => hx ⟨(hm.1 k.1).1, k.2⟩), if_neg hx]
theorem adds_block (ht : mayP kp la) (h : okM g ex left s) (x : Int) (he : (hearP g kp la ex left s 6 xs).er = 0) :
    wantsP (hearP g kp la ex left s 6 xs).ex (hearP g kp la ex left s 6 xs).s x = wantsP ex s x := by
  rw [hearP6] at he ⊢
  rw [cap_er he]
  refine bool_eq ?_
  rw [wants_iff, wants_iff, block_lf ht h, blS_lf h (mk_inc xs)]
  simp only [mk_mem]
  have := ht.1
  have hl := h.left
  show (_ ∧ (ex = false ∨ _)) ∨ (_ ∧ ex = true) ↔ _
  cases ex
  · simp only [Bool.false_eq_true, false_and, if_false]
    split <;> simp <;> omega
  · have := hl.2.2.1 rfl
    simp only [true_and]
    split <;> split <;> simp <;> omega
theorem adds_gone (ht : mayP kp la) (h : okM g ex left s) (x : Int) (he : (hearP g kp la ex left s 6 xs).er = 0) (hx : x ∈ xs) :
    wantsP (tkE (hearP g kp la ex left s 6 xs).ex (hearP g kp la ex left s 6 xs).left la) (tkS (hearP g kp la ex left s 6 xs).ex (hearP g kp la ex left s 6 xs).left (hearP g kp la ex left s 6 xs).s la) x = false := by
  have hok := hear_ok 6 xs ht h
  rw [hearP6] at he hok ⊢
  rw [cap_er he] at hok ⊢
  cases hw : wantsP (tkE (hBlock g kp la ex left s (mk xs)).ex (hBlock g kp la ex left s (mk xs)).left la) (tkS (hBlock g kp la ex left s (mk xs)).ex (hBlock g kp la ex left s (mk xs)).left (hBlock g kp la ex left s (mk xs)).s la) x with
  | false => rfl
  | true =>
    exfalso
    rw [wants_iff, lf_tkS hok.inc hok.nn, block_lf ht h, blS_lf h (mk_inc xs)] at hw
    simp only [mk_mem] at hw
    have := ht.1
    have hl := h.left
    have hlow := lf_low h.nn x
    have e1 : (hBlock g kp la ex left s (mk xs)).ex = ex := rfl
    have e2 : (hBlock g kp la ex left s (mk xs)).left = left := rfl
    rw [e1, e2] at hw
    unfold tkE at hw
    cases ex
    · have := hl.2.2.2 rfl
      simp only [Bool.false_eq_true, false_and, if_false, hx, true_and, Bool.false_and, false_or, and_false, or_false] at hw
      split at hw <;> split at hw <;> simp at hw <;> omega
    · have := hl.2.2.1 rfl
      simp only [Bool.true_and, decide_eq_true_eq, decide_eq_false_iff_not, hx, true_and] at hw
      split at hw <;> split at hw <;> split at hw <;> omega
theorem turns_isEx (ht : mayP kp la) (h : okM g ex left s) (x : Int) (he : (hearP g kp la ex left s 2 xs).er = 0) :
    (hearP g kp la ex left s 2 xs).ex = true ∧ (x ∉ xs → wantsP (hearP g kp la ex left s 2 xs).ex (hearP g kp la ex left s 2 xs).s x = true) := by
  rw [hearP2] at he ⊢
  rw [cap_er he]
  refine ⟨rfl, fun hx => ?_⟩
  have e1 : lf (hIsEx g kp la ex left s (mk xs)).s x = -1 := by
    show lf (exS s (mk xs) (if ex then kp else 0)) x = -1
    rw [lf_exS h.inc (mk_inc xs) h.nn, if_neg (fun k => hx ((mk_mem x xs).1 k))]
  rw [wants_iff, e1]
  exact .inr ⟨by omega, rfl⟩
theorem turns_toEx (ht : mayP kp la) (h : okM g ex left s) (x : Int) (he : (hearP g kp la ex left s 4 xs).er = 0) :
    (hearP g kp la ex left s 4 xs).ex = true ∧ (x ∉ xs → wantsP (hearP g kp la ex left s 4 xs).ex (hearP g kp la ex left s 4 xs).s x = true) := by
  rw [hearP4] at he ⊢
  rw [cap_er he]
  refine ⟨rfl, fun hx => ?_⟩
  have hB := mk_inc xs
  have i1 := exS_inc left h.inc hB
  have n1 : NN (exS s (mk xs) left) := keepS_nn (by have := h.left; omega) (ad_filter_inc _ h.inc) (dif_inc hB h.inc) (nn_filter _ h.nn)
  have e1 : lf (exS s (mk xs) left) x = -1 := by rw [lf_exS h.inc hB h.nn, if_neg (fun k => hx ((mk_mem x xs).1 k))]
  have e2 : lf (hToEx g kp la ex left s (mk xs)).s x = -1 := by
    show lf (askS (exS s (mk xs) left) la (wantS (exS s (mk xs) left))) x = -1
    rw [lf_askS i1 (wantS_inc i1) n1 (by have := ht.1; omega), e1, if_neg (fun k => by have := k.2; have := ht.1; omega)]
  rw [wants_iff, e2]
  exact .inr ⟨by omega, rfl⟩
theorem toIn_er (he : (hearP g kp la ex left s 3 xs).er ≠ 0) : (hearP g kp la ex left s 3 xs).er = 7 := by
  rw [hearP3] at he ⊢
  unfold capH at *
  split
  · rename_i h; rw [if_pos h] at he; exact absurd rfl he
  · rfl
theorem keep_nn (ht : mayP kp la) (h : okM g ex left s) : NN (keepS s (mk xs) kp) := keepS_nn (by have := ht; unfold mayP at this; omega) h.inc (mk_inc xs) h.nn
theorem toIn_lf (ht : mayP kp la) (h : okM g ex left s) (x : Int) : lf (hToIn g kp la ex left s (mk xs)).s x = if x ∈ xs then kp else if la < lf s x then la else lf s x := by
  have hB := mk_inc xs
  have i1 := keepS_inc (s := s) kp h.inc hB
  have n1 := keep_nn (xs := xs) ht h
  show lf (askS (keepS s (mk xs) kp) la (dif (wantS (keepS s (mk xs) kp)) (mk xs))) x = _
  rw [lf_askS i1 (dif_inc (wantS_inc i1) hB) n1 (by have := ht.1; omega), keepS_lf h.inc hB h.nn]
  have hm := dif_mem (wantS_inc i1) hB x
  rw [wantS_mem i1 n1, keepS_lf h.inc hB h.nn] at hm
  simp only [mk_mem] at hm
  have := ht.1
  simp only [mk_mem]
  by_cases hx : x ∈ xs
  · rw [if_pos hx, if_neg (fun k => (hm.1 k.1).2 hx)]
    simp only [hx, if_true]
  · simp only [hx, if_false] at hm ⊢
    by_cases hy : la < lf s x
    · rw [if_pos ⟨hm.2 ⟨by omega, not_false⟩, hy⟩, if_pos hy]
    · rw [if_neg (fun k => hy k.2), if_neg hy]
theorem turns_toIn (ht : mayP kp la) (h : okM g ex left s) (x : Int) (he : (hearP g kp la ex left s 3 xs).er = 0) :
    (ex = true → (hearP g kp la ex left s 3 xs).q ≠ []) ∧ tkE (hearP g kp la ex left s 3 xs).ex (hearP g kp la ex left s 3 xs).left la = false ∧
    (x ∉ xs → wantsP (tkE (hearP g kp la ex left s 3 xs).ex (hearP g kp la ex left s 3 xs).left la) (tkS (hearP g kp la ex left s 3 xs).ex (hearP g kp la ex left s 3 xs).left (hearP g kp la ex left s 3 xs).s la) x = false) ∧
    (x ∈ xs → kp ≠ la → wantsP (tkE (hearP g kp la ex left s 3 xs).ex (hearP g kp la ex left s 3 xs).left la) (tkS (hearP g kp la ex left s 3 xs).ex (hearP g kp la ex left s 3 xs).left (hearP g kp la ex left s 3 xs).s la) x = true) := by
  have hok := hear_ok 3 xs ht h
  rw [hearP3] at he hok ⊢
  rw [cap_er he] at hok ⊢
  have t := ht
  unfold mayP at t
  have hl := h.left
  have hlow := lf_low h.nn x
  have e0 : tkE (hToIn g kp la ex left s (mk xs)).ex (hToIn g kp la ex left s (mk xs)).left la = false := by
    show (ex && decide (0 < max ((if ex then min left la else left) - la) 0)) = false
    cases ex
    · rfl
    · simp only [if_true, Bool.true_and, decide_eq_false_iff_not]; omega
  refine ⟨fun e => ?_, e0, fun hx => ?_, fun hx hne => ?_⟩
  · subst e
    show askQ _ _ ++ [(g, [])] ≠ []
    simp
  · cases hw : wantsP (tkE (hToIn g kp la ex left s (mk xs)).ex (hToIn g kp la ex left s (mk xs)).left la) (tkS (hToIn g kp la ex left s (mk xs)).ex (hToIn g kp la ex left s (mk xs)).left (hToIn g kp la ex left s (mk xs)).s la) x with
    | false => rfl
    | true =>
      exfalso
      rw [wants_iff, lf_tkS hok.inc hok.nn, toIn_lf ht h, e0] at hw
      simp only [hx, if_false, Bool.false_eq_true, false_or, and_false, or_false] at hw
      split at hw <;> split at hw <;> simp at hw <;> omega
  · rw [wants_iff, lf_tkS hok.inc hok.nn, toIn_lf ht h, e0]
    simp only [hx, if_true, Bool.false_eq_true, false_or]
    left
    rw [if_pos ⟨by omega, by omega⟩]
    exact ⟨by omega, .inl trivial⟩
end
end Go.Proofs.Ytllpmepmgnnoaaa
/- What the laws of what is known stand on. -/
namespace Go.Proofs.Ytllpmepmgnnoaaa
set_option linter.unusedVariables false
open Go.RowKit

/-- A variable of times. -/
def TC (w : World) (X : Nat) (kp la : Int) : Prop := w.cell? ⟨X, 0, none⟩ = some (.int .i64 kp) ∧ w.cell? ⟨X, 1, none⟩ = some (.int .i64 la)
theorem TC.below {w w' : World} {X : Nat} {kp la : Int} (h : TC w X kp la) (hb : Below w.heap.size w w') : TC w' X kp la := ⟨(hb.cell (cell_lt h.1)).trans h.1, (hb.cell (cell_lt h.2)).trans h.2⟩
theorem mkLaw (w : World) (cs : Array Value) (T : TypeId) (kp la g : Int) (ex : Bool) (left : Int) (a : Option Addr) (n c : Nat) (W : World)
    (hW : W = ((w.alloc (.cells cs T)).alloc (.cells #[.int .i64 kp, .int .i64 la] 45)).alloc (.cells #[.int .u32 g, .bool ex, .int .i64 left, .slice a n c] 48)) :
    TC W (w.heap.size + 1) kp la ∧ MV W (w.heap.size + 2) g ex left a n c ∧ Below w.heap.size w W := by
  subst hW
  have e1 : (w.alloc (.cells cs T)).heap.size = w.heap.size + 1 := World.size_alloc _ _
  have e2 : ((w.alloc (.cells cs T)).alloc (.cells #[.int .i64 kp, .int .i64 la] 45)).heap.size = w.heap.size + 2 := by rw [World.size_alloc, e1]
  have l0 := v_blk (Go.Deep.blk_alloc_new (w.alloc (.cells cs T)) (.cells #[.int .i64 kp, .int .i64 la] 45)) (.cells #[.int .u32 g, .bool ex, .int .i64 left, .slice a n c] 48)
  rw [e1] at l0
  have v0 := MV.new ((w.alloc (.cells cs T)).alloc (.cells #[.int .i64 kp, .int .i64 la] 45)) g ex left a n c
  rw [e2] at v0
  exact ⟨⟨by simp only [World.cell?, l0]; rfl, by simp only [World.cell?, l0]; rfl⟩, v0, (((Below.refl _ w).alloc (Nat.le_refl _) _).alloc (by rw [e1]; omega) _).alloc (by rw [e2]; omega) _⟩
theorem may_T {g kp la : Int} {ex : Bool} {left : Int} {s : List Hd} (ht : mayP kp la) (h : okM g ex left s) (hg : 0 ≤ g ∧ g ≤ 4294967295) : (1 ≤ la ∧ la ≤ 1000000) ∧ (0 ≤ kp ∧ kp ≤ 1000000) ∧ (0 ≤ left ∧ left ≤ 1000000) ∧ (0 ≤ g ∧ g ≤ 4294967295) := by
  have hl := h.left
  unfold mayP at ht
  exact ⟨by omega, by omega, by omega, hg⟩
end Go.Proofs.Ytllpmepmgnnoaaa
/- What stays, and what is kept: plain facts of the laws. -/
namespace Go.Proofs.Ytllpmepmgnnoaaa
set_option linter.unusedVariables false

section
variable {g kp la : Int} {ex : Bool} {left : Int} {s : List Hd} {xs : List Int}
theorem tk_addE {n m : Int} (hn : 0 ≤ n) (hm : 0 ≤ m) : tkE (tkE ex left n) (max (left - n) 0) m = tkE ex left (n + m) := by
  unfold tkE
  cases ex
  · rfl
  · simp only [Bool.true_and]
    by_cases h : 0 < max (left - (n + m)) 0
    · have h1 : 0 < max (left - n) 0 := by omega
      have h2 : 0 < max (max (left - n) 0 - m) 0 := by omega
      simp only [h, h1, h2, decide_true, Bool.true_and]
    · have h2 : ¬ 0 < max (max (left - n) 0 - m) 0 := by omega
      simp only [h, h2, decide_false, Bool.and_false]
theorem tk_addL {n m : Int} (hn : 0 ≤ n) (hm : 0 ≤ m) : max (max (left - n) 0 - m) 0 = max (left - (n + m)) 0 := by omega
theorem tk_addS {n m : Int} (hi : Inc (ad s)) (hnn : NN s) (hn : 0 ≤ n) (hm : 0 ≤ m) : tkS (tkE ex left n) (max (left - n) 0) (tkS ex left s n) m = tkS ex left s (n + m) := by
  refine s_ext (tkS_inc (tkS_inc hi)) (tkS_inc hi) tkS_nn tkS_nn fun a => ?_
  rw [lf_tkS (tkS_inc hi) tkS_nn, lf_tkS hi hnn, lf_tkS hi hnn, tk_addE hn hm]
  have hE : tkE ex left (n + m) = true → tkE ex left n = true := by
    unfold tkE
    cases ex
    · simp
    · simp only [Bool.true_and, decide_eq_true_eq]; omega
  by_cases hb : tkE ex left (n + m) = true
  · have hc := hE hb
    simp only [hb, hc, true_or, and_true]
    split <;> split <;> omega
  · simp only [hb, Bool.false_eq_true, false_or]
    by_cases hc : tkE ex left n = true
    · simp only [hc, true_or, and_true]
      split <;> split <;> split <;> omega
    · simp only [hc, Bool.false_eq_true, false_or]
      split <;> split <;> split <;> omega
theorem tk_zero (h : okM g ex left s) : tkE ex left 0 = ex ∧ max (left - 0) 0 = left ∧ tkS ex left s 0 = s := by
  have hl := h.left
  have e1 : tkE ex left 0 = ex := by
    unfold tkE
    cases ex
    · rfl
    · have := hl.2.2.1 rfl
      simp only [Bool.true_and, decide_eq_true_eq]; omega
  refine ⟨e1, by omega, s_ext (tkS_inc h.inc) h.inc tkS_nn h.nn fun a => ?_⟩
  rw [lf_tkS h.inc h.nn, e1]
  have hlow := lf_low h.nn a
  by_cases hm : a ∈ ad s
  · have hb := h.lb.lf hm
    cases ex
    · have : (1 : Int) ≤ lf s a := hb.1
      rw [if_pos ⟨by omega, .inr (by omega)⟩]; omega
    · have : (0 : Int) ≤ lf s a := hb.1
      rw [if_pos ⟨by omega, .inl rfl⟩]; omega
  · rw [lf_none hm, if_neg (fun k => by omega)]
theorem keep_mt (B : List Int) (T : Int) (hB : Inc B) : keepS [] B T = kof B fun _ => T := by
  unfold keepS
  have e : uni (ad []) B = B := inc_ext (uni_inc inc_nil hB) hB fun x => by rw [uni_mem (show Inc (ad []) from inc_nil) hB]; simp [ad]
  rw [e]
  exact kof_congr fun a ha => by rw [if_pos ha]
theorem ex_mt (B : List Int) (T : Int) (hB : Inc B) : exS [] B T = kof B fun _ => T := by
  unfold exS
  have e : dif B (ad []) = B := inc_ext (dif_inc hB (show Inc (ad []) from inc_nil)) hB fun x => by rw [dif_mem hB (show Inc (ad []) from inc_nil)]; simp [ad]
  rw [e]
  exact keep_mt B T hB
theorem kof_len (B : List Int) (f : Int → Int) : (kof B f).length = B.length := by unfold kof; rw [List.length_map]
theorem keeps1 (h64 : xs.length ≤ 64) : hearP g kp la false 0 [] 1 xs = ⟨false, 0, kof (mk xs) fun _ => kp, [], 0⟩ := by
  rw [hearP1]
  unfold capH hAllow
  simp only
  rw [keep_mt _ _ (mk_inc xs), if_pos (by rw [kof_len]; exact Nat.le_trans (mk_len xs) h64)]
theorem keeps2 (h64 : xs.length ≤ 64) : hearP g kp la false 0 [] 2 xs = ⟨true, kp, kof (mk xs) fun _ => 0, [], 0⟩ := by
  rw [hearP2]
  unfold capH hIsEx
  simp only [Bool.false_eq_true, if_false]
  rw [ex_mt _ _ (mk_inc xs), if_pos (by rw [kof_len]; exact Nat.le_trans (mk_len xs) h64)]
theorem kof_inc (xs : List Int) (f : Int → Int) : Inc (ad (kof (mk xs) f)) := by rw [ad_kof]; exact mk_inc xs
theorem keeps_in (hk : 0 ≤ kp) (x : Int) {t : Int} (ht : 0 ≤ t) : wantsP (tkE false 0 t) (tkS false 0 (kof (mk xs) fun _ => kp) t) x = (decide (x ∈ xs) && decide (t < kp)) := by
  refine bool_eq ?_
  have e0 : tkE false 0 t = false := rfl
  rw [wants_iff, lf_tkS (kof_inc _ _) (nn_kof fun _ _ => hk), lf_kof, e0, Bool.and_eq_true, decide_eq_true_iff, decide_eq_true_iff]
  simp only [mk_mem, Bool.false_eq_true, false_or, and_false, or_false]
  by_cases hx : x ∈ xs
  · simp only [hx, if_true, true_and]
    split <;> simp <;> omega
  · simp only [hx, if_false, false_and, iff_false]
    split <;> simp <;> omega
theorem keeps_ex (hk : 1 ≤ kp) (x : Int) {t : Int} (ht : 0 ≤ t) : wantsP (tkE true kp t) (tkS true kp (kof (mk xs) fun _ => 0) t) x = (!decide (x ∈ xs) && decide (t < kp)) := by
  refine bool_eq ?_
  have e0 : tkE true kp t = decide (t < kp) := by
    unfold tkE
    rw [Bool.true_and]
    exact decide_eq_decide.2 (by omega)
  rw [wants_iff, lf_tkS (kof_inc _ _) (nn_kof fun _ _ => Int.le_refl 0), lf_kof, e0]
  simp only [mk_mem, decide_eq_true_iff, decide_eq_false_iff_not, Bool.and_eq_true, Bool.not_eq_true']
  by_cases hx : x ∈ xs
  · simp only [hx, if_true, not_true_eq_false, false_and, iff_false]
    split <;> simp <;> omega
  · simp only [hx, if_false, not_false_eq_true, true_and]
    split <;> simp <;> omega
theorem keeps_some (hk : 1 ≤ kp) {t : Int} (ht : 0 ≤ t) : (tkE true kp t || decide (0 < (tkS true kp (kof (mk xs) fun _ => 0) t).length)) = decide (t < kp) := by
  have e0 : tkE true kp t = decide (t < kp) := by
    unfold tkE
    rw [Bool.true_and]
    exact decide_eq_decide.2 (by omega)
  by_cases h : t < kp
  · rw [e0, decide_eq_true h]; rfl
  · have e1 : tkS true kp (kof (mk xs) fun _ => 0) t = [] := by
      unfold tkS
      rw [List.map_eq_nil_iff, List.filter_eq_nil_iff]
      intro y hy
      obtain ⟨a, _, rfl⟩ := List.mem_map.1 hy
      rw [e0, decide_eq_false h]
      simp; omega
    rw [e1, e0, decide_eq_false h]
    rfl
end
end Go.Proofs.Ytllpmepmgnnoaaa
