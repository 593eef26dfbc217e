/- The law's small functions; arguments that came in. -/
import Derived.Test.YtmcbbccbonadjaaW0
import Derived.Test.YtmcbbccbonadjaaW1
import Derived.Test.YtmcbbccbonadjaaW2
import Derived.Test.YtmcbbccbonadjaaW3
import Derived.Test.YtmcbbccbonadjaaW4
import Derived.Test.YtmcbbccbonadjaaW5
import Derived.Test.YtmcbbccbonadjaaW6
import Derived.Test.YtmcbbccbonadjaaRows
import Derived.WalkKit
import Derived.ProofKit
import Derived.OpenShut
import Derived.ShutString
import Derived.ChangeOld
import Derived.Below
import Derived.Deep.DeepHandedRow
import Derived.Deep.Fields
import Derived.SizedLaws
import Derived.BigQuiet
namespace Go.Proofs.Ytmcbbccbonadjaa
set_option linter.unusedVariables false
open Go.ChangeShapes Go.WideShapes Go.ChangeAt Go.RowKit Go.Deep

theorem own : ownKnob Try.prog.godebug = none := by kernel_rfl
theorem laidOut : laidOutB Try.prog = true := by kernel_rfl
theorem u32_bd {a : Int} (h : (Lit.int .u32 a).wf = true) : 0 ≤ a ∧ a ≤ 4294967295 := by
  have := bounds_u32 h; omega

section
variable {H : Type} {enc : TypeId × Value → H} {w : World} {base : Nat} {held : Bool}
theorem get_field {P : Program} {spare : Nat → Bool} {n : Nat} {fs : Array Field} {l : List Value} {xs : List (DataW H × List MemPlace)}
    (hg : ∀ (i : Nat) (f : Field), fs[i]? = some f → DataW.trod enc P w base spare held n f.type ((l.drop f.offset).take (P.cellsOf f.type)) = xs[i]?) (i : Nat) {f : Field} (off : Nat) (ty : TypeId) (k : Nat) (hf : fs[i]? = some f) (ho : f.offset = off) (ht : f.type = ty) (hk : P.cellsOf ty = k) (hlen : i < xs.length) :
    DataW.trod enc P w base spare held n ty ((l.drop off).take k) = some xs[i] := by
  have := hg i f hf
  rw [ho, ht, hk, List.getElem?_eq_getElem hlen] at this
  exact this
theorem weights_all {P : Program} {e : TypeId} : ∀ {l : List (DataW H)} {d : DataW H}, d ∈ l → ∀ n ∈ d.weights P e, n ∈ DataW.weightsAll P e l
  | d0 :: l, d, hd, n, hn => by
    unfold DataW.weightsAll
    rw [List.mem_append]
    rcases List.mem_cons.1 hd with rfl | hd
    · exact .inl hn
    · exact .inr (weights_all hd n hn)
theorem open_as {fuel : Nat} {c : Value} {y : DataW H × List MemPlace} (h : DataW.trod enc Try.prog w base (fun _ => true) held fuel 23 [c] = some y) (hz : ∀ n ∈ y.1.weights Try.prog 23, n ≤ reachBytes) :
    ∃ a cp xs, c = .slice a (List.length xs) cp ∧ As w a xs ∧ xs.length ≤ 1125899906842624 ∧ (a = none → cp = 0) := by
  rcases open_ints Try.underlying23 Try.underlying27 (by kernel_rfl) h with ⟨hcs, _⟩ | ⟨x, l, cp, zs, hcs, _, hl, hm, hzl, hx, hcell, hwz⟩
  · simp at hcs
    exact ⟨none, 0, [], hcs, As.nil _ _, by simp, fun _ => rfl⟩
  · simp at hcs hzl
    have hlen : (zs.take l).length = l := by rw [List.length_take]; omega
    have hget : ∀ k, k < l → (zs.take l).getD k 0 = zs.getD k 0 := by
      intro k hk
      rw [List.getD_eq_getElem?_getD, List.getD_eq_getElem?_getD, List.getElem?_take_of_lt hk]
    have hby : Try.prog.bytesOf 27 = 4 := by kernel_rfl
    have hw := hz ((l + (zs.length - l)) * 4) (by rw [hx]; simp [DataW.weights, Try.underlying23, lits, hby]; left; omega)
    refine ⟨some x, cp, zs.take l, by rw [hlen]; exact hcs, ⟨?_, ?_⟩, by rw [hlen]; unfold reachBytes at hw; omega, fun e => by cases e⟩
    · by_cases h0 : l = 0
      · subst h0; exact .inl (by simp)
      · obtain ⟨b, off, spot⟩ := x
        have hs : spot = none := by
          have := hcell 0 (by omega)
          simpa [Addr.add] using World.cell?_spot this
        subst hs
        refine .inr ⟨b, off, rfl, fun k hk => ?_⟩
        rw [hlen] at hk
        have := hcell k (by omega)
        rw [hget k hk, ← this, add_flat]
    · intro k hk
      rw [hlen] at hk
      rw [hget k hk]
      have hmem : zs.getD k 0 ∈ zs := by
        rw [List.getD_eq_getElem?_getD, List.getElem?_eq_getElem (by omega)]
        exact List.getElem_mem _
      exact u32_bd (hwz _ hmem)
theorem list_of {α : Type} (R : Nat → α → Prop) : ∀ n : Nat, (∀ i, i < n → ∃ r, R i r) → ∃ l : List α, l.length = n ∧ ∀ k r, l[k]? = some r → R k r
  | 0, _ => ⟨[], rfl, fun k r h => by simp at h⟩
  | n + 1, h => by
    obtain ⟨l, hl, hr⟩ := list_of R n fun i hi => h i (by omega)
    obtain ⟨r, hn⟩ := h n (by omega)
    refine ⟨l ++ [r], by simp [hl], fun k r' hk => ?_⟩
    by_cases h' : k < n
    · rw [List.getElem?_append_left (by omega)] at hk
      exact hr k r' hk
    · rw [List.getElem?_append_right (by omega)] at hk
      have e : k - l.length = 0 := by
        have := (List.getElem?_eq_some_iff.1 hk).1
        simp at this; omega
      rw [e] at hk
      simp at hk
      subst hk
      rwa [show k = n by omega]
set_option maxRecDepth 100000 in
/-- A row of addresses that came in. -/
theorem open_top {r : Reach} {b0 : Nat} {v : Value} {d : DataW H} {p : List MemPlace} (hv : Value.okWide Try.prog w r b0 23 v) (h : DataW.Trod enc Try.prog w base (fun _ => true) held 23 v d p) (hz : ∀ n ∈ d.weights Try.prog 23, n ≤ reachBytes) :
    ∃ (a : Option Addr) (cp : Nat) (xs : List Int), v = .slice a (List.length xs) cp ∧ As w a xs ∧ Flat a (List.length xs) cp ∧ List.length xs ≤ 1125899906842624 := by
  obtain ⟨a0, l0, c0, rfl⟩ := okWide_slice Try.underlying23 hv
  obtain ⟨fuel, hf⟩ := h
  obtain ⟨a, cp, xs, e, ha, hn, hc⟩ := open_as (c := .slice a0 l0 c0) (y := (d, p)) (by simpa [Value.cells] using hf) hz
  cases e
  refine ⟨a0, c0, xs, rfl, ha, ?_, hn⟩
  unfold Value.okWide at hv
  simp only [Try.underlying23] at hv
  unfold Cell.okWide at hv
  simp only [Try.underlying23] at hv
  unfold Cell.ok at hv
  simp only [Try.underlying23] at hv
  match a0, hc, ha, hv with
  | none, hc, ha, hv =>
    refine .inl ⟨rfl, ?_, hc rfl⟩
    rcases ha.1 with e | ⟨_, _, e, _⟩
    · rw [e]; rfl
    · cases e
  | some ⟨b, off, spot⟩, hc, ha, hv =>
    obtain ⟨_, _, _, hs, _⟩ := hv
    simp only at hs
    subst hs
    exact .inr ⟨b, off, rfl⟩
end
end Go.Proofs.Ytmcbbccbonadjaa
/- The law's 'filters'; filters that came in. -/
namespace Go.Proofs.Ytmcbbccbonadjaa
set_option linter.unusedVariables false
open Go.ChangeShapes Go.WideShapes Go.ChangeAt Go.RowKit Go.Deep

def tot : List Flt → Nat
  | [] => 0
  | f :: r => 1 + f.srcs.length + tot r
theorem tot_app (a b : List Flt) : tot (a ++ b) = tot a + tot b := by
  induction a with
  | nil => simp [tot]
  | cons f r ih => simp [tot, ih]; omega
theorem tot_succ {fs : List Flt} {k : Nat} {f : Flt} (h : fs[k]? = some f) : tot (fs.take (k + 1)) = tot (fs.take k) + 1 + f.srcs.length := by
  rw [take_succ h, tot_app]; simp [tot]; omega
theorem tot_take (fs : List Flt) (k : Nat) : tot (fs.take k) ≤ tot fs := by
  have := tot_app (fs.take k) (fs.drop k)
  rw [List.take_append_drop] at this
  omega
theorem tot_len (fs : List Flt) : fs.length ≤ tot fs := by
  induction fs with
  | nil => simp [tot]
  | cons f r ih => simp [tot]; omega
theorem tot_mem {fs : List Flt} {f : Flt} (h : f ∈ fs) : f.srcs.length ≤ tot fs := by
  induction fs with
  | nil => cases h
  | cons g r ih =>
    simp only [tot]
    rcases List.mem_cons.1 h with rfl | h
    · omega
    · have := ih h; omega
/-- Few filters, of sets. -/
def okF (fs : List Flt) : Prop := (∀ f ∈ fs, Inc f.srcs) ∧ tot fs ≤ 200
instance (fs : List Flt) : Decidable (okF fs) := by unfold okF; infer_instance
theorem okF.few {fs : List Flt} (h : okF fs) : FewF fs := ⟨by have := tot_len fs; have := h.2; omega, fun f hf => by have := tot_mem hf; have := h.2; omega⟩
set_option maxRecDepth 100000 in
set_option maxHeartbeats 4000000 in
theorem rFilters (a : Option Addr) (n c : Nat) (fs : List Flt) (w : World) (hx : fs.length = n) (hn : n ≤ 1125899906842624) (hl : ∀ f ∈ fs, f.srcs.length ≤ 1125899906842624) (hF : Fls w a fs) :
    Calls Try.prog 12 #[.slice a n c] w fun e w' => e = .returned (.bool (decide (okF fs))) ∧ Below w.heap.size w w' := by
  have HX := Lib.hid hx
  have HF := Lib.hid hF
  have HL := Lib.hid hl
  clear hx hF hl
  go_enter Try.func12, Try.ntmps12
  go_wp2
  go_loopw [3, 4] (fun v3 v4 wr => ∃ k : Nat, v3 = .int .i64 (tot (fs.take k) : Int) ∧ v4 = .int .i64 (k : Int) ∧ k ≤ n ∧ tot (fs.take k) ≤ 200 ∧ (∀ f ∈ fs.take k, Inc f.srcs) ∧ Below w.heap.size w wr) (fun _ v _ => n - (intOf v).toNat)
  case atStart => exact ⟨0, rfl, rfl, by omega, by simp [tot], by simp, Below.refl _ _⟩
  case round =>
    obtain ⟨k, rfl, rfl, hk, ht, hi, hB⟩ := hrel
    have HI := Lib.hid hi
    have HB := Lib.hid hB
    clear hi hB
    by_cases hlt : k < n
    · obtain ⟨b, off, rfl, hc⟩ := HF.out.at (k := k) (by rw [HX.out]; exact hlt)
      obtain ⟨⟨ex, srcs, fa, fc⟩, hfk⟩ : ∃ f, fs[k]? = some f := ⟨_, List.getElem?_eq_getElem (by rw [HX.out]; exact hlt)⟩
      obtain ⟨⟨c0, c1⟩, hok⟩ := (hc k _ hfk).below HB.out
      simp only [Flt.sl] at c1
      have hs : srcs.length ≤ 1125899906842624 := HL.out _ (List.mem_of_getElem? hfk)
      have HOK := Lib.hid hok
      have HS := Lib.hid (tot_succ hfk)
      have HFK := Lib.hid hfk
      have hm := Lib.hid (List.mem_of_getElem? hfk)
      have htt := Lib.hid (tot_take fs (k + 1))
      clear hc hok hfk
      have hkz : (k : Int) < (n : Int) := by omega
      obtain ⟨t, htk⟩ : ∃ t, tot (fs.take k) = t := ⟨_, rfl⟩
      have HT := Lib.hid htk
      rw [htk] at ht ⊢
      clear htk
      obtain ⟨m, hsm⟩ : ∃ m, srcs.length = m := ⟨_, rfl⟩
      have HSM := Lib.hid hsm
      rw [hsm] at hs c1
      clear hsm
      by_cases hbig : t + 1 + m ≤ 200
      · have hg : decide ((200 : Int) < (t : Int) + 1 + (m : Int)) = false := decide_eq_false (by omega)
        go_wp2_with fail
        refine (rRight fa m fc srcs _ HSM.out (by omega) HOK.out.1).mono ?_
        rintro e w2 ⟨rfl, hB2⟩
        have HB2 := Lib.hid (HB.out.trans (hB2.mono HB.out.size))
        clear hB2
        by_cases hinc : Inc srcs
        · rw [decide_eq_true hinc]
          have HIN := Lib.hid hinc
          clear hinc
          go_wp2_with fail
          go_roundw
          case rel =>
            have e3 := HS.out
            rw [HT.out, HSM.out] at e3
            refine ⟨k + 1, by rw [e3]; go_num, by go_num, by omega, by rw [e3]; exact hbig, ?_, HB2.out⟩
            rw [take_succ HFK.out]
            intro f hf
            rcases List.mem_append.1 hf with h | h
            · exact HI.out f h
            · simp at h; subst h; exact HIN.out
          case measure => simp [intOf]; omega
        · rw [decide_eq_false hinc]
          have HIN := Lib.hid hinc
          clear hinc
          go_wp2_with fail
          go_ret
          exact ⟨ret_bool (decide_eq_false fun h => HIN.out (h.1 _ hm.out)).symm, HB2.out⟩
      · have hg : (200 : Int) < (t : Int) + 1 + (m : Int) := by omega
        go_wp2_with fail
        go_ret
        refine ⟨ret_bool (decide_eq_false fun h => ?_).symm, HB.out⟩
        have e3 := HS.out
        rw [HT.out, HSM.out] at e3
        have := htt.out
        have := h.2
        omega
    · obtain rfl : k = n := by omega
      have htk : fs.take k = fs := List.take_of_length_le (by rw [HX.out]; exact Nat.le_refl _)
      have HI' := HI.out
      rw [htk] at ht HI'
      have HO := Lib.hid (show okF fs from ⟨HI', ht⟩)
      clear HI' HI ht htk
      go_wp2_with fail
      go_ret
      exact ⟨ret_bool (decide_eq_true HO.out).symm, HB.out⟩

section
variable {H : Type} {enc : TypeId × Value → H} {w : World} {base : Nat} {held : Bool}
theorem open_flt0 {fuel : Nat} {c0 c1 : Value} {y : DataW H × List MemPlace} {b o : Nat} (h : DataW.trod enc Try.prog w base (fun _ => true) held fuel 25 [c0, c1] = some y) (hz : ∀ n ∈ y.1.weights Try.prog 25, n ≤ reachBytes)
    (h0 : w.cell? ⟨b, o, none⟩ = some c0) (h1 : w.cell? ⟨b, o + 1, none⟩ = some c1) : ∃ r : Flt, FAt w b o r ∧ r.srcs.length ≤ 1125899906842624 := by
  obtain ⟨xs, n, _, hx, _, hlen, hg⟩ := DataW.trod_struct Try.underlying25 h
  have hl3 : xs.length = 2 := by rw [hlen]; rfl
  have g0 := get_field hg 0 0 4 1 rfl rfl rfl (by kernel_rfl) (by omega)
  have g1 := get_field hg 1 1 23 1 rfl rfl rfl (by kernel_rfl) (by omega)
  obtain ⟨t, q0, _⟩ := DataW.trod_bool Try.underlying4 g0
  have hw1 : ∀ n ∈ (xs[1]'(by omega)).1.weights Try.prog 23, n ≤ reachBytes := by
    intro n hn
    refine hz n ?_
    rw [hx]
    unfold DataW.weights
    simp only [Try.underlying25]
    exact DataW.weights_mem_each (j := 1) rfl (by rw [List.getElem?_map, List.getElem?_eq_getElem (by omega)]; rfl) n hn
  obtain ⟨a, cp, zs, q1, ha, hn, hnil⟩ := open_as g1 hw1
  simp at q0
  subst q0 q1
  exact ⟨⟨t, zs, a, cp⟩, ⟨⟨h0, h1⟩, ha, hnil⟩, hn⟩
set_option maxRecDepth 100000 in
theorem open_flts0 {fuel : Nat} {c : Value} {y : DataW H × List MemPlace} (h : DataW.trod enc Try.prog w base (fun _ => true) held fuel 22 [c] = some y) (hz : ∀ n ∈ y.1.weights Try.prog 22, n ≤ reachBytes) :
    ∃ (a : Option Addr) (cp : Nat) (rs : List Flt), c = .slice a (List.length rs) cp ∧ Fls w a rs ∧ rs.length ≤ 1125899906842624 ∧ (∀ f ∈ rs, f.srcs.length ≤ 1125899906842624) ∧ (a = none → cp = 0) := by
  have e3 : Try.prog.cellsOf 25 = 2 := by kernel_rfl
  have hby : Try.prog.bytesOf 25 = 32 := by kernel_rfl
  rcases open_slice Try.underlying22 h with ⟨hcs, _⟩ | ⟨⟨b, off, spot⟩, len, cap, m, n, D, Pl, hcs, _, hl, hm, hmm, hx, hi⟩
  · simp at hcs
    exact ⟨none, 0, [], hcs, .inl rfl, by simp, by simp, fun _ => rfl⟩
  simp at hcs
  subst hcs
  rw [hx] at hz
  unfold DataW.weights at hz
  simp only [Try.underlying22] at hz
  have hw := hz _ (List.mem_cons_self ..)
  have hlen : len ≤ 1125899906842624 := by
    simp only [List.length_map, List.length_range, hby] at hw
    unfold reachBytes at hw
    omega
  have hs : 0 < len → spot = none := by
    intro h0
    obtain ⟨cs', hc, ht⟩ := hi 0 (by rw [hmm]; simp; omega)
    rw [e3] at hc
    obtain ⟨_, hcl, hat⟩ := World.cells?_some hc
    match cs', hcl with
    | [c0, c1], _ =>
    have a0 := hat 0 (by omega)
    have := World.cell?_spot a0
    simpa [Addr.add] using this
  by_cases h0 : len = 0
  · subst h0
    exact ⟨_, cap, [], rfl, .inl rfl, by simp, by simp, fun e => by cases e⟩
  obtain rfl := hs (by omega)
  have each : ∀ i, i < len → ∃ r : Flt, FAt w b (off + i * 2) r ∧ r.srcs.length ≤ 1125899906842624 := by
    intro i hil
    obtain ⟨cs', hc, ht⟩ := hi i (by rw [hmm]; simp; omega)
    rw [e3] at hc
    obtain ⟨_, hcl, hat⟩ := World.cells?_some hc
    match cs', hcl with
    | [c0, c1], _ =>
    have a0 := hat 0 (by omega)
    have a1 := hat 1 (by omega)
    rw [add_flat, add_flat] at a0 a1
    refine open_flt0 (y := (D i, Pl i)) ht (fun x hx' => hz x ?_) a0 a1
    refine List.mem_cons_of_mem _ (List.mem_append_left _ (weights_all (d := D i) ?_ x hx'))
    exact List.mem_map.2 ⟨i, List.mem_range.2 hil, rfl⟩
  obtain ⟨rs, hrl, hr⟩ := list_of (fun i r => FAt w b (off + i * 2) r ∧ r.srcs.length ≤ 1125899906842624) len each
  subst hrl
  exact ⟨_, cap, rs, rfl, .inr ⟨b, off, rfl, fun k f hk => (hr k f hk).1⟩, hlen, fun f hf => by obtain ⟨i, hi, e⟩ := List.getElem_of_mem hf; exact (hr i f (by rw [List.getElem?_eq_getElem hi, e])).2, fun e => by cases e⟩
set_option maxRecDepth 100000 in
/-- A slice of filters that came in. -/
theorem open_flts {r : Reach} {b0 : Nat} {v : Value} {d : DataW H} {p : List MemPlace} (hv : Value.okWide Try.prog w r b0 22 v) (h : DataW.Trod enc Try.prog w base (fun _ => true) held 22 v d p) (hz : ∀ n ∈ d.weights Try.prog 22, n ≤ reachBytes) :
    ∃ (a : Option Addr) (cp : Nat) (rs : List Flt), v = .slice a (List.length rs) cp ∧ Fls w a rs ∧ rs.length ≤ 1125899906842624 ∧ (∀ f ∈ rs, f.srcs.length ≤ 1125899906842624) ∧ (a = none → cp = 0) := by
  obtain ⟨a0, l0, c0, rfl⟩ := okWide_slice Try.underlying22 hv
  obtain ⟨fuel, hf⟩ := h
  exact open_flts0 (c := .slice a0 l0 c0) (y := (d, p)) (by simpa [Value.cells] using hf) hz
end
end Go.Proofs.Ytmcbbccbonadjaa
/- What filters want, plainly. -/
namespace Go.Proofs.Ytmcbbccbonadjaa
set_option linter.unusedVariables false
open Go.RowKit

/-- Does a filter want a source? -/
def wf (x : Int) (f : Flt) : Bool := decide (x ∈ f.srcs) != f.ex
theorem wf_iff {x : Int} {f : Flt} : wf x f = true ↔ (x ∈ f.srcs ∧ f.ex = false) ∨ (x ∉ f.srcs ∧ f.ex = true) := by
  unfold wf
  by_cases h : x ∈ f.srcs <;> cases h2 : f.ex <;> simp [h]
theorem wo_mem {x : Int} {fs : List Flt} : x ∈ wo fs ↔ ∃ f ∈ fs, f.ex = false ∧ x ∈ f.srcs := by
  unfold wo
  simp only [List.mem_flatMap, List.mem_filter, Bool.not_eq_true']
  constructor
  · rintro ⟨f, ⟨h1, h2⟩, h3⟩; exact ⟨f, h1, h2, h3⟩
  · rintro ⟨f, h1, h2, h3⟩; exact ⟨f, ⟨h1, h2⟩, h3⟩
theorem fold_inc (r : List Flt) (hr : ∀ g ∈ r, Inc g.srcs) (l : List Int) (hl : Inc l) : Inc (r.foldl (fun l g => int l g.srcs) l) := by
  induction r generalizing l with
  | nil => exact hl
  | cons g r ih => exact ih (fun g' h => hr g' (List.mem_cons_of_mem _ h)) _ (int_inc hl (hr g (List.mem_cons_self ..)))
theorem fold_mem (r : List Flt) (hr : ∀ g ∈ r, Inc g.srcs) (l : List Int) (hl : Inc l) (x : Int) : x ∈ r.foldl (fun l g => int l g.srcs) l ↔ x ∈ l ∧ ∀ g ∈ r, x ∈ g.srcs := by
  induction r generalizing l with
  | nil => simp
  | cons g r ih =>
    have hg := hr g (List.mem_cons_self ..)
    rw [List.foldl_cons, ih (fun g' h => hr g' (List.mem_cons_of_mem _ h)) _ (int_inc hl hg), int_mem hl hg]
    simp only [List.mem_cons, forall_eq_or_imp, and_assoc]
theorem withs_mem {fs : List Flt} {f : Flt} : f ∈ withs fs ↔ f ∈ fs ∧ f.ex = true := by simp [withs]
theorem flt_nil {fs : List Flt} (h : withs fs = []) : flt fs = (false, mk (wo fs)) := by unfold flt; rw [h]
theorem flt_cons {fs r : List Flt} {f : Flt} (h : withs fs = f :: r) : flt fs = (true, dif (r.foldl (fun l g => int l g.srcs) f.srcs) (mk (wo fs))) := by unfold flt; rw [h]
theorem flt_inc {fs : List Flt} (h : ∀ f ∈ fs, Inc f.srcs) : Inc (flt fs).2 := by
  cases hw : withs fs with
  | nil => rw [flt_nil hw]; exact mk_inc _
  | cons f r =>
    rw [flt_cons hw]
    have hm : ∀ g ∈ f :: r, Inc g.srcs := fun g hg => h g (withs_mem.1 (hw ▸ hg)).1
    exact dif_inc (fold_inc r (fun g hg => hm g (List.mem_cons_of_mem _ hg)) _ (hm f (List.mem_cons_self ..))) (mk_inc _)
theorem flt_ex {fs : List Flt} : (flt fs).1 = fs.any (·.ex) := by
  cases hw : withs fs with
  | nil =>
    rw [flt_nil hw]
    symm
    rw [List.any_eq_false]
    intro f hf h
    have : f ∈ withs fs := withs_mem.2 ⟨hf, h⟩
    rw [hw] at this
    cases this
  | cons f r =>
    rw [flt_cons hw]
    symm
    rw [List.any_eq_true]
    have : f ∈ withs fs := by rw [hw]; exact List.mem_cons_self ..
    exact ⟨f, (withs_mem.1 this).1, (withs_mem.1 this).2⟩
theorem flt_wants {fs : List Flt} (h : ∀ f ∈ fs, Inc f.srcs) (x : Int) : (decide (x ∈ (flt fs).2) != (flt fs).1) = fs.any (wf x) := by
  rw [Bool.eq_iff_iff, List.any_eq_true]
  cases hw : withs fs with
  | nil =>
    rw [flt_nil hw]
    simp only [mk_mem, wo_mem, Bool.bne_false, decide_eq_true_eq]
    constructor
    · rintro ⟨f, hf, h1, h2⟩; exact ⟨f, hf, wf_iff.2 (.inl ⟨h2, h1⟩)⟩
    · rintro ⟨f, hf, h1⟩
      rcases wf_iff.1 h1 with ⟨h2, h3⟩ | ⟨h2, h3⟩
      · exact ⟨f, hf, h3, h2⟩
      · have : f ∈ withs fs := withs_mem.2 ⟨hf, h3⟩
        rw [hw] at this
        cases this
  | cons f r =>
    rw [flt_cons hw]
    have hm : ∀ g ∈ f :: r, g ∈ fs ∧ g.ex = true := fun g hg => withs_mem.1 (hw ▸ hg)
    have h0 := h f (hm f (List.mem_cons_self ..)).1
    have hr : ∀ g ∈ r, Inc g.srcs := fun g hg => h g (hm g (List.mem_cons_of_mem _ hg)).1
    simp only [Bool.bne_true, Bool.not_eq_true', decide_eq_false_iff_not, dif_mem (fold_inc r hr _ h0) (mk_inc _), fold_mem r hr _ h0, mk_mem, wo_mem]
    constructor
    · intro hn
      by_cases h1 : ∃ g ∈ fs, g.ex = false ∧ x ∈ g.srcs
      · obtain ⟨g, hg, h2, h3⟩ := h1
        exact ⟨g, hg, wf_iff.2 (.inl ⟨h3, h2⟩)⟩
      · by_cases h2 : x ∈ f.srcs
        · have h3 : ¬ ∀ g ∈ r, x ∈ g.srcs := fun h3 => hn ⟨⟨h2, h3⟩, h1⟩
          obtain ⟨g, h4⟩ := Classical.not_forall.1 h3
          obtain ⟨hg, h5⟩ := Classical.not_imp.1 h4
          exact ⟨g, (hm g (List.mem_cons_of_mem _ hg)).1, wf_iff.2 (.inr ⟨h5, (hm g (List.mem_cons_of_mem _ hg)).2⟩)⟩
        · exact ⟨f, (hm f (List.mem_cons_self ..)).1, wf_iff.2 (.inr ⟨h2, (hm f (List.mem_cons_self ..)).2⟩)⟩
    · rintro ⟨g, hg, h1⟩ ⟨⟨h2, h3⟩, h4⟩
      rcases wf_iff.1 h1 with ⟨h5, h6⟩ | ⟨h5, h6⟩
      · exact h4 ⟨g, hg, h6, h5⟩
      · have : g ∈ withs fs := withs_mem.2 ⟨hg, h6⟩
        rw [hw] at this
        rcases List.mem_cons.1 this with rfl | h7
        · exact h5 h2
        · exact h5 (h3 g h7)
/-- Two wants that agree, with the same side, are the same set. -/
theorem wants_ext {e : Bool} {a b : List Int} (ha : Inc a) (hb : Inc b) (h : ∀ x, (decide (x ∈ a) != e) = (decide (x ∈ b) != e)) : a = b :=
  inc_ext ha hb fun x => by
    have := h x
    have h2 : decide (x ∈ a) = decide (x ∈ b) := by
      cases h1 : decide (x ∈ a) <;> cases h2 : decide (x ∈ b) <;> cases e <;> simp_all
    exact decide_eq_decide.1 h2
theorem any_succ {fs : List Flt} {k : Nat} {f : Flt} (h : fs[k]? = some f) (p : Flt → Bool) : (fs.take (k + 1)).any p = ((fs.take k).any p || p f) := by
  rw [take_succ h, List.any_append]; simp
theorem flt_len {fs : List Flt} (h : FewF fs) : (flt fs).2.length ≤ 160000 := by
  have h1 := wo_len h.2
  have h2 := h.1
  have h3 := mk_len (wo fs)
  cases hw : withs fs with
  | nil => rw [flt_nil hw]; show (mk (wo fs)).length ≤ _; omega
  | cons f r =>
    rw [flt_cons hw]
    have h4 := dif_len (r.foldl (fun l g => int l g.srcs) f.srcs) (mk (wo fs))
    have h5 := fold_len r f.srcs
    have h6 := h.2 f (withs_mem.1 (show f ∈ withs fs by rw [hw]; exact List.mem_cons_self ..)).1
    show (dif _ _).length ≤ _
    omega
/-- A filter in a variable of its own. -/
theorem box_new (w : World) (v0 v1 : Value) : (w.alloc (.cells #[v0, v1] 25)).cell? ⟨w.heap.size, 0, none⟩ = some v0 ∧ (w.alloc (.cells #[v0, v1] 25)).cell? ⟨w.heap.size, 1, none⟩ = some v1 := by
  have hN := Go.Deep.blk_alloc_new w (.cells #[v0, v1] 25)
  exact ⟨by simp only [World.cell?, hN]; rfl, by simp only [World.cell?, hN]; rfl⟩
end Go.Proofs.Ytmcbbccbonadjaa
/- The document's own Inter and Minus. -/
namespace Go.Proofs.Ytmcbbccbonadjaa
set_option linter.unusedVariables false
open Go.RowKit

theorem filt_succ (xs : List Int) (p : Int → Bool) {k : Nat} (h : k < xs.length) : (xs.take (k + 1)).filter p = (xs.take k).filter p ++ (if p (xs.getD k 0) = true then [xs.getD k 0] else []) := by
  rw [List.take_add_one, List.getElem?_eq_getElem h, List.getD_eq_getElem?_getD, List.getElem?_eq_getElem h, List.filter_append]
  simp only [Option.toList, Option.getD_some, List.filter_cons, List.filter_nil]
theorem filt_len (xs : List Int) (p : Int → Bool) (k : Nat) : ((xs.take k).filter p).length ≤ xs.length :=
  Nat.le_trans (List.length_filter_le _ _) (List.length_take_le' _ _)
theorem isA_filter (p : Int → Bool) {xs : List Int} (h : IsA xs) : IsA (xs.filter p) := isA_iff.2 fun z hz => isA_iff.1 h z (List.mem_filter.1 hz).1
theorem inter_int {a b : List Int} (ha : Inc a) (hb : Inc b) : (a.filter fun x => decide (x ∈ b)) = int a b := inc_ext (List.Pairwise.filter _ ha) (int_inc ha hb) fun x => by rw [int_mem ha hb, List.mem_filter]; simp
theorem minus_dif {a b : List Int} (ha : Inc a) (hb : Inc b) : (a.filter fun x => !decide (x ∈ b)) = dif a b := inc_ext (List.Pairwise.filter _ ha) (dif_inc ha hb) fun x => by rw [dif_mem ha hb, List.mem_filter]; simp
set_option maxRecDepth 100000 in
set_option maxHeartbeats 4000000 in
theorem rInter (a b : Option Addr) (n m ca cb : Nat) (xs ys : List Int) (w : World) (hx : xs.length = n) (hy : ys.length = m) (hn : n ≤ 100000) (hm : m ≤ 100000) (h1 : As w a xs) (h2 : As w b ys) :
    Calls Try.prog 78 #[.slice a n ca, .slice b m cb] w fun e w' => Out w e w' (xs.filter fun x => decide (x ∈ ys)) := by
  have HX := Lib.hid hx
  have HY := Lib.hid hy
  have H1 := Lib.hid h1
  have H2 := Lib.hid h2
  have HL := Lib.hid (fun k => filt_len xs (fun x => decide (x ∈ ys)) k)
  clear hx hy h1 h2
  go_enter Try.func78, Try.ntmps78
  go_wp2
  go_loopw [5, 6, 7] (fun v5 v6 v7 wr => ∃ k : Nat, v6 = .int .i64 (k : Int) ∧ k ≤ n ∧ wr.ownsRow w.heap.size 27 1 v5 ((xs.take k).filter fun x => decide (x ∈ ys)).length (va ((xs.take k).filter fun x => decide (x ∈ ys))) ∧ Below w.heap.size w wr) (fun _ v _ _ => n - (intOf v).toNat)
  case atStart => exact ⟨0, rfl, by omega, World.ownsRow_nil _ _ _ _, Below.refl _ _⟩
  case round =>
    obtain ⟨k, rfl, hk, ho, hB⟩ := hrel
    have HO := Lib.hid ho
    have HB := Lib.hid hB
    have hll := HL.out k
    have hll2 : ((xs.take k).filter fun x => decide (x ∈ ys)).length ≤ 100000 := Nat.le_trans (by rw [HX.out] at hll; exact hll) hn
    clear ho hB hll
    by_cases hlt : k < n
    · obtain ⟨b', off, rfl, hc⟩ := (H1.out.below HB.out).at (k := k) (by rw [HX.out]; exact hlt)
      have c1 := hc k (by rw [HX.out]; exact hlt)
      have hkz : (k : Int) < (n : Int) := by omega
      have HS := Lib.hid (filt_succ xs (fun x => decide (x ∈ ys)) (k := k) (by rw [HX.out]; exact hlt))
      have HR := Lib.hid (H1.out.2 k (by rw [HX.out]; exact hlt))
      clear hc
      generalize xs.getD k 0 = y at *
      have HYn := Lib.hid (as_new wr [y] (isA_iff.2 (by intro z hz; simp at hz; subst hz; exact HR.out)))
      have hYn : As (wr.alloc (.cells #[.int .u32 y] 27)) (some ⟨wr.heap.size, 0, none⟩) [y] := HYn.out
      have HYm := Lib.hid hYn
      clear HYn hYn
      go_wp2_with fail
      refine (rHas b m cb ys y _ HY.out (by omega) (H2.out.below HB.out)).mono ?_
      rintro e w2 ⟨rfl, rfl⟩
      by_cases hin : y ∈ ys
      · have HIN := Lib.hid hin
        rw [decide_eq_true hin]
        clear hin
        go_wp2_with (first | (refine wpList_app_as rfl (.tmp 21) (.tmp 26) rfl w.heap.size _ _ _ rfl (HO.out.alloc _) rfl (some ⟨w2.heap.size, 0, none⟩) 1 1 [y] rfl rfl HYm.out (fun e => by cases e) (by omega) (Nat.le_trans HB.out.size (by rw [World.size_alloc]; omega)) ?_; intro a' cap' w' hown hg))
        go_roundw
        case rel =>
          refine ⟨k + 1, by go_num, by omega, ?_, HB.out.trans (((Below.refl _ w2).alloc HB.out.size _).trans (grown_below (HO.out.alloc _) hg.out (Nat.le_trans HB.out.size (by rw [World.size_alloc]; omega))))⟩
          rw [HS.out, if_pos (by simpa using HIN.out), List.length_append]
          exact hown.out
        case measure => simp [intOf]; omega
      · have HIN := Lib.hid hin
        rw [decide_eq_false hin]
        clear hin
        go_wp2_with fail
        go_roundw
        case rel =>
          refine ⟨k + 1, by go_num, by omega, ?_, HB.out⟩
          rw [HS.out, if_neg (by simpa using HIN.out), List.append_nil]
          exact HO.out
        case measure => simp [intOf]; omega
    · obtain rfl : k = n := by omega
      have htk : xs.take k = xs := List.take_of_length_le (by rw [HX.out]; exact Nat.le_refl _)
      have HO' := HO.out
      rw [htk] at HO'
      have HI := isA_filter (fun x => decide (x ∈ ys)) H1.out.2
      have HOo := Lib.hid HO'
      clear HO HO' htk
      go_wp2_with fail
      go_ret
      exact out_of HOo.out HI HB.out
set_option maxRecDepth 100000 in
set_option maxHeartbeats 4000000 in
theorem rMinus (a b : Option Addr) (n m ca cb : Nat) (xs ys : List Int) (w : World) (hx : xs.length = n) (hy : ys.length = m) (hn : n ≤ 100000) (hm : m ≤ 100000) (h1 : As w a xs) (h2 : As w b ys) :
    Calls Try.prog 52 #[.slice a n ca, .slice b m cb] w fun e w' => Out w e w' (xs.filter fun x => !decide (x ∈ ys)) := by
  have HX := Lib.hid hx
  have HY := Lib.hid hy
  have H1 := Lib.hid h1
  have H2 := Lib.hid h2
  have HL := Lib.hid (fun k => filt_len xs (fun x => !decide (x ∈ ys)) k)
  clear hx hy h1 h2
  go_enter Try.func52, Try.ntmps52
  go_wp2
  go_loopw [5, 6, 7] (fun v5 v6 v7 wr => ∃ k : Nat, v6 = .int .i64 (k : Int) ∧ k ≤ n ∧ wr.ownsRow w.heap.size 27 1 v5 ((xs.take k).filter fun x => !decide (x ∈ ys)).length (va ((xs.take k).filter fun x => !decide (x ∈ ys))) ∧ Below w.heap.size w wr) (fun _ v _ _ => n - (intOf v).toNat)
  case atStart => exact ⟨0, rfl, by omega, World.ownsRow_nil _ _ _ _, Below.refl _ _⟩
  case round =>
    obtain ⟨k, rfl, hk, ho, hB⟩ := hrel
    have HO := Lib.hid ho
    have HB := Lib.hid hB
    have hll := HL.out k
    have hll2 : ((xs.take k).filter fun x => !decide (x ∈ ys)).length ≤ 100000 := Nat.le_trans (by rw [HX.out] at hll; exact hll) hn
    clear ho hB hll
    by_cases hlt : k < n
    · obtain ⟨b', off, rfl, hc⟩ := (H1.out.below HB.out).at (k := k) (by rw [HX.out]; exact hlt)
      have c1 := hc k (by rw [HX.out]; exact hlt)
      have hkz : (k : Int) < (n : Int) := by omega
      have HS := Lib.hid (filt_succ xs (fun x => !decide (x ∈ ys)) (k := k) (by rw [HX.out]; exact hlt))
      have HR := Lib.hid (H1.out.2 k (by rw [HX.out]; exact hlt))
      clear hc
      generalize xs.getD k 0 = y at *
      have HYn := Lib.hid (as_new wr [y] (isA_iff.2 (by intro z hz; simp at hz; subst hz; exact HR.out)))
      have hYn : As (wr.alloc (.cells #[.int .u32 y] 27)) (some ⟨wr.heap.size, 0, none⟩) [y] := HYn.out
      have HYm := Lib.hid hYn
      clear HYn hYn
      go_wp2_with fail
      refine (rHas b m cb ys y _ HY.out (by omega) (H2.out.below HB.out)).mono ?_
      rintro e w2 ⟨rfl, rfl⟩
      by_cases hin : y ∈ ys
      · have HIN := Lib.hid hin
        rw [decide_eq_true hin]
        clear hin
        go_wp2_with fail
        go_roundw
        case rel =>
          refine ⟨k + 1, by go_num, by omega, ?_, HB.out⟩
          rw [HS.out, if_neg (by simpa using HIN.out), List.append_nil]
          exact HO.out
        case measure => simp [intOf]; omega
      · have HIN := Lib.hid hin
        rw [decide_eq_false hin]
        clear hin
        go_wp2_with (first | (refine wpList_app_as rfl (.tmp 22) (.tmp 27) rfl w.heap.size _ _ _ rfl (HO.out.alloc _) rfl (some ⟨w2.heap.size, 0, none⟩) 1 1 [y] rfl rfl HYm.out (fun e => by cases e) (by omega) (Nat.le_trans HB.out.size (by rw [World.size_alloc]; omega)) ?_; intro a' cap' w' hown hg))
        go_roundw
        case rel =>
          refine ⟨k + 1, by go_num, by omega, ?_, HB.out.trans (((Below.refl _ w2).alloc HB.out.size _).trans (grown_below (HO.out.alloc _) hg.out (Nat.le_trans HB.out.size (by rw [World.size_alloc]; omega))))⟩
          rw [HS.out, if_pos (by simpa using HIN.out), List.length_append]
          exact hown.out
        case measure => simp [intOf]; omega
    · obtain rfl : k = n := by omega
      have htk : xs.take k = xs := List.take_of_length_le (by rw [HX.out]; exact Nat.le_refl _)
      have HO' := HO.out
      rw [htk] at HO'
      have HI := isA_filter (fun x => !decide (x ∈ ys)) H1.out.2
      have HOo := Lib.hid HO'
      clear HO HO' htk
      go_wp2_with fail
      go_ret
      exact out_of HOo.out HI HB.out
end Go.Proofs.Ytmcbbccbonadjaa
/- The document's own Make. -/
namespace Go.Proofs.Ytmcbbccbonadjaa
set_option linter.unusedVariables false
open Go.RowKit

theorem mk_has {l : List Int} {y : Int} (h : y ∈ mk l) : mk (l ++ [y]) = mk l := inc_ext (mk_inc _) (mk_inc _) fun x => by
  rw [mk_mem, mk_mem, List.mem_append, List.mem_singleton]
  constructor
  · rintro (h1 | rfl)
    · exact h1
    · exact (mk_mem x l).1 h
  · exact .inl
theorem mk_put {l : List Int} {y : Int} {j : Nat} (hn : y ∉ mk l) (hj : j ≤ (mk l).length) (hlt : ∀ i, i < j → (mk l).getD i 0 < y) (hge : j < (mk l).length → y ≤ (mk l).getD j 0) : mk (l ++ [y]) = (mk l).take j ++ [y] ++ (mk l).drop j := by
  have hI : (mk l).Pairwise (· < ·) := mk_inc l
  have ha : ∀ a ∈ (mk l).take j, a < y := by
    intro a h
    obtain ⟨i, hi, e⟩ := List.getElem_of_mem h
    have hij : i < j := by simp at hi; omega
    have h2 := hlt i hij
    rw [List.getElem_take] at e
    rw [List.getD_eq_getElem?_getD, List.getElem?_eq_getElem (by omega)] at h2
    simp at h2
    omega
  have hb : ∀ b ∈ (mk l).drop j, y < b := by
    intro b h
    by_cases hjl : j < (mk l).length
    · have h2 := hge hjl
      have hd : (mk l).drop j = (mk l).getD j 0 :: (mk l).drop (j + 1) := by
        rw [List.drop_eq_getElem_cons hjl, List.getD_eq_getElem?_getD, List.getElem?_eq_getElem hjl]; rfl
      have hm : (mk l).getD j 0 ∈ mk l := by
        rw [List.getD_eq_getElem?_getD, List.getElem?_eq_getElem hjl]; exact List.getElem_mem _
      have h3 : y < (mk l).getD j 0 := by
        have : (mk l).getD j 0 ≠ y := fun e => hn (e ▸ hm)
        omega
      rw [hd] at h
      rcases List.mem_cons.1 h with rfl | h
      · exact h3
      · have h4 : ((mk l).drop j).Pairwise (· < ·) := List.Pairwise.sublist (List.drop_sublist _ _) hI
        rw [hd, List.pairwise_cons] at h4
        have := h4.1 b h
        omega
    · rw [List.drop_eq_nil_of_le (by omega)] at h; cases h
  have hinc : Inc ((mk l).take j ++ [y] ++ (mk l).drop j) := by
    show List.Pairwise (· < ·) _
    rw [List.append_assoc, List.pairwise_append]
    refine ⟨List.Pairwise.sublist (List.take_sublist _ _) hI, ?_, ?_⟩
    · rw [List.singleton_append, List.pairwise_cons]
      exact ⟨hb, List.Pairwise.sublist (List.drop_sublist _ _) hI⟩
    · intro a h1 b h2
      rw [List.singleton_append] at h2
      rcases List.mem_cons.1 h2 with rfl | h2
      · exact ha a h1
      · have := ha a h1; have := hb b h2; omega
  refine inc_ext (mk_inc _) hinc fun x => ?_
  rw [mk_mem, List.mem_append, List.append_assoc, List.mem_append, List.mem_append, List.mem_singleton]
  have hx : x ∈ l ↔ x ∈ (mk l).take j ∨ x ∈ (mk l).drop j := by
    rw [← mk_mem x l, ← List.mem_append, List.take_append_drop]
  rw [hx]
  constructor
  · rintro ((h | h) | h)
    · exact .inl h
    · exact .inr (.inr h)
    · exact .inr (.inl h)
  · rintro (h | h | h)
    · exact .inl (.inl h)
    · exact .inr h
    · exact .inl (.inr h)
theorem take_succ' {xs : List Int} {k : Nat} (h : k < xs.length) : xs.take (k + 1) = xs.take k ++ [xs.getD k 0] := by
  rw [List.take_add_one, List.getElem?_eq_getElem h, List.getD_eq_getElem?_getD, List.getElem?_eq_getElem h]; rfl
theorem as_drop {w : World} {g : Nat} {L : List Int} {j : Nat} (h : As w (some ⟨g, 0, none⟩) L) (hj : j ≤ L.length) : As w (some ⟨g, j, none⟩) (L.drop j) := by
  have hg : ∀ k, (L.drop j).getD k 0 = L.getD (j + k) 0 := fun k => by rw [List.getD_eq_getElem?_getD, List.getD_eq_getElem?_getD, List.getElem?_drop]
  refine ⟨.inr ⟨g, j, rfl, fun k hk => ?_⟩, fun k hk => ?_⟩
  · rw [List.length_drop] at hk
    rw [hg]
    rcases h.1 with e | ⟨b, off, e, hc⟩
    · rw [e] at hk; simp at hk
    · cases e
      have := hc (j + k) (by omega)
      rwa [Nat.zero_add] at this
  · rw [List.length_drop] at hk
    rw [hg]
    exact h.2 (j + k) (by omega)
theorem own_base {w : World} {B B' n size : Nat} {e : TypeId} {v : Value} {xs : List Value} (h : w.ownsRow B e size v n xs) (hB : B' ≤ B) : w.ownsRow B' e size v n xs := by
  refine ⟨h.1, ?_⟩
  rcases h.2 with e | ⟨g, c, cur, e, h1, h2⟩
  · exact .inl e
  · exact .inr ⟨g, c, cur, e, Nat.le_trans hB h1, h2⟩
set_option linter.unusedSimpArgs false in
set_option maxRecDepth 100000 in
set_option maxHeartbeats 8000000 in
theorem rMake (a : Option Addr) (n c : Nat) (xs : List Int) (w : World) (hx : xs.length = n) (hn : n ≤ 100000) (h1 : As w a xs) :
    Calls Try.prog 59 #[.slice a n c] w fun e w' => Out w e w' (mk xs) := by
  have HX := Lib.hid hx
  have H1 := Lib.hid h1
  clear hx h1
  go_enter Try.func59, Try.ntmps59
  go_wp2
  go_loopw [3, 4, 5, 6, 7] (fun v3 v4 v5 v6 v7 wr => ∃ k : Nat, v4 = .int .i64 (k : Int) ∧ k ≤ n ∧ wr.ownsRow w.heap.size 27 1 v3 (mk (xs.take k)).length (va (mk (xs.take k))) ∧ Below w.heap.size w wr) (fun _ v _ _ _ _ => n - (intOf v).toNat)
  case atStart => exact ⟨0, rfl, by omega, World.ownsRow_nil _ _ _ _, Below.refl _ _⟩
  case round =>
    obtain ⟨k, rfl, hk, ho, hB⟩ := hrel
    have HO := Lib.hid ho
    have HB := Lib.hid hB
    clear ho hB
    by_cases hlt : k < n
    · obtain ⟨b', off, rfl, hc⟩ := (H1.out.below HB.out).at (k := k) (by rw [HX.out]; exact hlt)
      have c0 := hc k (by rw [HX.out]; exact hlt)
      have hkz : (k : Int) < (n : Int) := by omega
      have HTk := Lib.hid (take_succ' (xs := xs) (k := k) (by rw [HX.out]; exact hlt))
      have HR := Lib.hid (H1.out.2 k (by rw [HX.out]; exact hlt))
      have HIA : IsA (mk (xs.take k)) := mk_isA (isA_iff.2 fun z hz => isA_iff.1 H1.out.2 z (List.mem_of_mem_take hz))
      have hll : (mk (xs.take k)).length ≤ n := Nat.le_trans (mk_len _) (by rw [List.length_take]; omega)
      clear hc
      generalize xs.getD k 0 = y at *
      obtain ⟨L, hL⟩ : ∃ L, mk (xs.take k) = L := ⟨_, rfl⟩
      have HLe := Lib.hid hL
      have HO' := HO.out
      rw [hL] at HO' HIA hll
      clear HO hL
      obtain ⟨a3, c3, rfl, hf3⟩ := own_sl HO'
      have hAL := (AsO.of rfl HO').as HIA
      have HAL := Lib.hid hAL
      have HO := Lib.hid HO'
      clear hAL HO' HIA
      go_wp2_with fail
      refine (rHas a3 L.length c3 L y _ rfl (by omega) HAL.out).mono ?_
      rintro e w2 ⟨rfl, rfl⟩
      by_cases hin : y ∈ L
      · have HIN := Lib.hid hin
        rw [decide_eq_true hin]
        clear hin
        go_wp2_with fail
        go_roundw
        case rel =>
          refine ⟨k + 1, by go_num, by omega, ?_, HB.out⟩
          have e1 := mk_has (l := xs.take k) (y := y) (by rw [HLe.out]; exact HIN.out)
          rw [HLe.out, ← HTk.out] at e1
          rw [e1]
          exact HO.out
        case measure => simp [intOf]; omega
      · have HNI := Lib.hid hin
        rw [decide_eq_false hin]
        clear hin
        have hcap : L.length ≤ c3 := (by
          rcases HO.out.2 with ⟨e, h0⟩ | ⟨g, cap, cur, e, _, _, hnc, _⟩
          · omega
          · simp at e; omega)
        have hgo : a3 = none ∧ L.length = 0 ∧ c3 = 0 ∨ ∃ g, a3 = some ⟨g, 0, none⟩ := (by
          rcases HO.out.2 with ⟨e, h0⟩ | ⟨g, cap, cur, e, _⟩
          · simp at e; exact .inl ⟨e.1, h0, e.2.2⟩
          · simp at e; exact .inr ⟨g, e.1⟩)
        go_wp2_with fail
        go_loopw [6, 7] (fun v6 v7 wr => ∃ j : Nat, v7 = .int .i64 (j : Int) ∧ j ≤ L.length ∧ wr.ownsRow w2.heap.size 27 1 v6 j (va (L.take j)) ∧ (∀ i, i < j → L.getD i 0 < y) ∧ Below w2.heap.size w2 wr) (fun _ v _ => L.length - (intOf v).toNat)
        case atStart => exact ⟨0, rfl, by omega, World.ownsRow_nil _ _ _ _, fun i hi => absurd hi (by omega), Below.refl _ _⟩
        case round =>
          obtain ⟨j, rfl, hj, ho2, hlt2, hB2⟩ := hrel
          have HO2 := Lib.hid ho2
          have HLT := Lib.hid hlt2
          have HB2 := Lib.hid hB2
          clear ho2 hlt2 hB2
          have c0 := (HB2.out.cell (cell_lt c0)).trans c0
          by_cases hjl : j < L.length
          · obtain ⟨g, rfl⟩ : ∃ g, a3 = some ⟨g, 0, none⟩ := (by
              rcases hgo with ⟨_, h0, _⟩ | h
              · omega
              · exact h)
            have c1 : wr.cell? ⟨g, j, none⟩ = some (.int .u32 (L.getD j 0)) := (by
              obtain ⟨b3, o3, e, hc⟩ := (HAL.out.below HB2.out).at hjl
              cases e
              have := hc j hjl
              rwa [Nat.zero_add] at this)
            have hjz : (j : Int) < (L.length : Int) := by omega
            by_cases hzy : L.getD j 0 < y
            · have HZY := Lib.hid hzy
              have HTJ := Lib.hid (take_succ' (xs := L) (k := j) hjl)
              have HRz := Lib.hid (HAL.out.2 j hjl)
              have HSL : Hid (∀ i, i < j + 1 → L.getD i 0 < y) := Lib.hid (fun i hi => by
                rcases Nat.lt_succ_iff_lt_or_eq.1 hi with hi | rfl
                · exact HLT.out i hi
                · exact hzy)
              generalize L.getD j 0 = z at *
              go_wp2_with fail
              go_quiet (fail)
              have HBq := Lib.hid (bdrawn HB2.out nq)
              have HOq := Lib.hid (own_grown HO2.out (bdrawn (Below.refl wr.heap.size wr) nq) (Nat.le_refl _))
              have c0 : (wr.drewN nq).cell? _ = _ := ((bdrawn (Below.refl wr.heap.size wr) nq).cell (cell_lt c0)).trans c0
              have c1 : (wr.drewN nq).cell? _ = _ := ((bdrawn (Below.refl wr.heap.size wr) nq).cell (cell_lt c1)).trans c1
              generalize wr.drewN nq = wq at *
              have HYn : As (wq.alloc (.cells #[.int .u32 z] 27)) (some ⟨wq.heap.size, 0, none⟩) [z] := as_new wq [z] (isA_iff.2 (by intro u hu; simp at hu; subst hu; exact HRz.out))
              have HYm := Lib.hid HYn
              clear HYn
              go_wp2_with (first | (refine wpList_app_as rfl (.tmp 36) (.tmp 41) rfl w2.heap.size _ j (L.take j) rfl (HOq.out.alloc _) (by rw [List.length_take]; omega) (some ⟨wq.heap.size, 0, none⟩) 1 1 [z] rfl rfl HYm.out (fun e => by cases e) (by omega) (Nat.le_trans HBq.out.size (by rw [World.size_alloc]; omega)) ?_; intro a1 c1' wa o1 g1; have G1 := Lib.hid (HBq.out.trans (((Below.refl _ wq).alloc HBq.out.size _).trans (grown_below (HOq.out.alloc _) g1.out (Nat.le_trans HBq.out.size (by rw [World.size_alloc]; omega))))); clear g1))
              go_roundw
              case rel =>
                refine ⟨j + 1, by go_num, by omega, ?_, HSL.out, G1.out⟩
                rw [HTJ.out]
                exact o1.out
              case measure => simp [intOf]; omega
            · have hzf : decide (L.getD j 0 < y) = false := decide_eq_false hzy
              have HGE : Hid (j < L.length → y ≤ L.getD j 0) := Lib.hid fun _ => Int.not_lt.1 hzy
              clear hzy
              generalize L.getD j 0 = z at c1 hzf
              go_wp2_with fail
              go_quiet (fail)
              have HBq := Lib.hid (bdrawn HB2.out nq)
              have HOq := Lib.hid (own_grown HO2.out (bdrawn (Below.refl wr.heap.size wr) nq) (Nat.le_refl _))
              have c0 : (wr.drewN nq).cell? _ = _ := ((bdrawn (Below.refl wr.heap.size wr) nq).cell (cell_lt c0)).trans c0
              generalize wr.drewN nq = wq at *
              have HYn : As (wq.alloc (.cells #[.int .u32 y] 27)) (some ⟨wq.heap.size, 0, none⟩) [y] := as_new wq [y] (isA_iff.2 (by intro u hu; simp at hu; subst hu; exact HR.out))
              have HYm := Lib.hid HYn
              clear HYn
              go_upto_region 13 with ((refine wpList_app_as rfl (.tmp 45) (.tmp 50) rfl w2.heap.size _ j (L.take j) rfl (HOq.out.alloc _) (by rw [List.length_take]; omega) (some ⟨wq.heap.size, 0, none⟩) 1 1 [y] rfl rfl HYm.out (fun e => by cases e) (by omega) (Nat.le_trans HBq.out.size (by rw [World.size_alloc]; omega)) ?_; intro a1 c1' wa o1 g1; have G1 := Lib.hid (HBq.out.trans (((Below.refl _ wq).alloc HBq.out.size _).trans (grown_below (HOq.out.alloc _) g1.out (Nat.le_trans HBq.out.size (by rw [World.size_alloc]; omega))))); clear g1))
              have d1 : (L.take j ++ [y]).length = j + 1 := by rw [List.length_append, List.length_take]; simp; omega
              have dn : (L.drop j).length = L.length - j := List.length_drop
              have dA := Lib.hid (as_drop (g := g) (j := j) (HAL.out.below G1.out) hj)
              go_wp2_with (first | (refine wpList_app_as rfl (.tmp 52) (.tmp 55) rfl w2.heap.size _ (j + 1) (L.take j ++ [y]) rfl o1.out d1 (some ⟨g, j, none⟩) (L.length - j) _ (L.drop j) rfl dn dA.out (by first | exact fun e => by cases e | exact fun _ => rfl) (by omega) G1.out.size ?_; intro a2 c2' wb o2 g2; have G2 := Lib.hid (G1.out.trans (grown_below o1.out g2.out G1.out.size)); clear g2))
              all_goals
                go_roundw
                case rel =>
                  refine ⟨k + 1, by go_num, by omega, ?_, HB.out.trans (G2.out.mono HB.out.size)⟩
                  have e1 := mk_put (l := xs.take k) (y := y) (j := j) (by rw [HLe.out]; exact HNI.out) (by rw [HLe.out]; exact hj) (by rw [HLe.out]; exact HLT.out) (by rw [HLe.out]; exact HGE.out)
                  rw [HLe.out, ← HTk.out] at e1
                  have e2 : L.length = j + (L.length - j) := by omega
                  have e3 : (mk (xs.take (k + 1))).length = j + 1 + (L.length - j) := by rw [e1]; simp; omega
                  first
                  | (rw [e3, e1]; exact own_base o2.out HB.out.size)
                  | (have e4 : L.length - j = 0 := (by omega); rw [e3, e1, e4]; exact own_base o2.out HB.out.size)
                case measure => simp [intOf]; omega
          · obtain rfl : j = L.length := by omega
            have HE1 : Hid (mk (xs.take (k + 1)) = L ++ [y]) := Lib.hid (by
              have e1 := mk_put (l := xs.take k) (y := y) (j := L.length) (by rw [HLe.out]; exact HNI.out) (by rw [HLe.out]; exact Nat.le_refl _) (by rw [HLe.out]; exact HLT.out) (by rw [HLe.out]; intro h; omega)
              rw [HLe.out, ← HTk.out] at e1
              rw [e1, List.take_length, List.drop_length, List.append_nil])
            have hjf : decide ((L.length : Int) < (L.length : Int)) = false := decide_eq_false (by omega)
            rcases hgo with ⟨rfl, h0, rfl⟩ | ⟨g, rfl⟩
            · obtain rfl : L = [] := List.eq_nil_of_length_eq_zero h0
              simp only [List.length_nil]
              simp only [List.length_nil] at hjf
              go_wp2_with fail
              go_quiet (fail)
              have HBq := Lib.hid (bdrawn HB2.out nq)
              have HOq := Lib.hid (own_grown HO2.out (bdrawn (Below.refl wr.heap.size wr) nq) (Nat.le_refl _))
              have c0 : (wr.drewN nq).cell? _ = _ := ((bdrawn (Below.refl wr.heap.size wr) nq).cell (cell_lt c0)).trans c0
              generalize wr.drewN nq = wq at *
              have HYn : As (wq.alloc (.cells #[.int .u32 y] 27)) (some ⟨wq.heap.size, 0, none⟩) [y] := as_new wq [y] (isA_iff.2 (by intro u hu; simp at hu; subst hu; exact HR.out))
              have HYm := Lib.hid HYn
              clear HYn
              go_upto_region 13 with ((refine wpList_app_as rfl (.tmp 45) (.tmp 50) rfl w2.heap.size _ 0 ([]) rfl (HOq.out.alloc _) (by simp) (some ⟨wq.heap.size, 0, none⟩) 1 1 [y] rfl rfl HYm.out (fun e => by cases e) (by omega) (Nat.le_trans HBq.out.size (by rw [World.size_alloc]; omega)) ?_; intro a1 c1' wa o1 g1; have G1 := Lib.hid (HBq.out.trans (((Below.refl _ wq).alloc HBq.out.size _).trans (grown_below (HOq.out.alloc _) g1.out (Nat.le_trans HBq.out.size (by rw [World.size_alloc]; omega))))); clear g1))
              go_wp2_with (first | (refine wpList_app_as rfl (.tmp 52) (.tmp 55) rfl w2.heap.size _ 1 ([] ++ [y]) rfl o1.out (by simp) _ 0 _ [] rfl rfl (As.nil _ _) (fun _ => rfl) (by omega) G1.out.size ?_; intro a2 c2' wb o2 g2; have G2 := Lib.hid (G1.out.trans (grown_below o1.out g2.out G1.out.size)); clear g2))
              all_goals
                go_roundw
                case rel =>
                  refine ⟨k + 1, by go_num, by omega, ?_, HB.out.trans (G2.out.mono HB.out.size)⟩
                  rw [HE1.out]
                  exact own_base o2.out HB.out.size
                case measure => simp [intOf]; omega
            · rcases Nat.eq_or_lt_of_le hcap with e3 | e3
              · subst e3
                go_wp2_with fail
                go_quiet (fail)
                have HBq := Lib.hid (bdrawn HB2.out nq)
                have HOq := Lib.hid (own_grown HO2.out (bdrawn (Below.refl wr.heap.size wr) nq) (Nat.le_refl _))
                have c0 : (wr.drewN nq).cell? _ = _ := ((bdrawn (Below.refl wr.heap.size wr) nq).cell (cell_lt c0)).trans c0
                generalize wr.drewN nq = wq at *
                have HYn : As (wq.alloc (.cells #[.int .u32 y] 27)) (some ⟨wq.heap.size, 0, none⟩) [y] := as_new wq [y] (isA_iff.2 (by intro u hu; simp at hu; subst hu; exact HR.out))
                have HYm := Lib.hid HYn
                clear HYn
                go_upto_region 13 with ((refine wpList_app_as rfl (.tmp 45) (.tmp 50) rfl w2.heap.size _ L.length (L.take L.length) rfl (HOq.out.alloc _) (by simp) (some ⟨wq.heap.size, 0, none⟩) 1 1 [y] rfl rfl HYm.out (fun e => by cases e) (by omega) (Nat.le_trans HBq.out.size (by rw [World.size_alloc]; omega)) ?_; intro a1 c1' wa o1 g1; have G1 := Lib.hid (HBq.out.trans (((Below.refl _ wq).alloc HBq.out.size _).trans (grown_below (HOq.out.alloc _) g1.out (Nat.le_trans HBq.out.size (by rw [World.size_alloc]; omega))))); clear g1))
                go_wp2_with (first | (refine wpList_app_as rfl (.tmp 52) (.tmp 55) rfl w2.heap.size _ (L.length + 1) (L.take L.length ++ [y]) rfl o1.out (by simp) _ _ _ [] rfl (by simp) (As.nil _ _) (fun e => by cases e) (by omega) G1.out.size ?_; intro a2 c2' wb o2 g2; have G2 := Lib.hid (G1.out.trans (grown_below o1.out g2.out G1.out.size)); clear g2))
                all_goals
                  go_roundw
                  case rel =>
                    refine ⟨k + 1, by go_num, by omega, ?_, HB.out.trans (G2.out.mono HB.out.size)⟩
                    rw [HE1.out]
                    have o3 := o2.out
                    simp only [List.append_nil, List.take_length, Nat.sub_self, Nat.add_zero] at o3
                    rw [List.length_append]
                    first
                    | exact own_base o3 HB.out.size
                    | (simp only [Nat.sub_self, Nat.add_zero]; exact own_base o3 HB.out.size)
                  case measure => simp [intOf]; omega
              · have hc3 : (L.length : Int) < (c3 : Int) := by omega
                go_wp2_with fail
                go_quiet (fail)
                have HBq := Lib.hid (bdrawn HB2.out nq)
                have HOq := Lib.hid (own_grown HO2.out (bdrawn (Below.refl wr.heap.size wr) nq) (Nat.le_refl _))
                have c0 : (wr.drewN nq).cell? _ = _ := ((bdrawn (Below.refl wr.heap.size wr) nq).cell (cell_lt c0)).trans c0
                generalize wr.drewN nq = wq at *
                have HYn : As (wq.alloc (.cells #[.int .u32 y] 27)) (some ⟨wq.heap.size, 0, none⟩) [y] := as_new wq [y] (isA_iff.2 (by intro u hu; simp at hu; subst hu; exact HR.out))
                have HYm := Lib.hid HYn
                clear HYn
                go_upto_region 13 with ((refine wpList_app_as rfl (.tmp 45) (.tmp 50) rfl w2.heap.size _ L.length (L.take L.length) rfl (HOq.out.alloc _) (by simp) (some ⟨wq.heap.size, 0, none⟩) 1 1 [y] rfl rfl HYm.out (fun e => by cases e) (by omega) (Nat.le_trans HBq.out.size (by rw [World.size_alloc]; omega)) ?_; intro a1 c1' wa o1 g1; have G1 := Lib.hid (HBq.out.trans (((Below.refl _ wq).alloc HBq.out.size _).trans (grown_below (HOq.out.alloc _) g1.out (Nat.le_trans HBq.out.size (by rw [World.size_alloc]; omega))))); clear g1))
                go_wp2_with (first | (refine wpList_app_as rfl (.tmp 52) (.tmp 55) rfl w2.heap.size _ (L.length + 1) (L.take L.length ++ [y]) rfl o1.out (by simp) _ _ _ [] rfl (by simp) (As.nil _ _) (fun e => by cases e) (by omega) G1.out.size ?_; intro a2 c2' wb o2 g2; have G2 := Lib.hid (G1.out.trans (grown_below o1.out g2.out G1.out.size)); clear g2))
                all_goals
                  go_roundw
                  case rel =>
                    refine ⟨k + 1, by go_num, by omega, ?_, HB.out.trans (G2.out.mono HB.out.size)⟩
                    rw [HE1.out]
                    have o3 := o2.out
                    simp only [List.append_nil, List.take_length, Nat.sub_self, Nat.add_zero] at o3
                    rw [List.length_append]
                    first
                    | exact own_base o3 HB.out.size
                    | (simp only [Nat.sub_self, Nat.add_zero]; exact own_base o3 HB.out.size)
                  case measure => simp [intOf]; omega
    · obtain rfl : k = n := by omega
      have htk : xs.take k = xs := List.take_of_length_le (by rw [HX.out]; exact Nat.le_refl _)
      have HO' := HO.out
      rw [htk] at HO'
      have HOo := Lib.hid HO'
      clear HO HO' htk
      go_wp2_with fail
      go_ret
      exact out_of HOo.out (mk_isA H1.out.2) HB.out
end Go.Proofs.Ytmcbbccbonadjaa
/- The document's own Union. -/
namespace Go.Proofs.Ytmcbbccbonadjaa
set_option linter.unusedVariables false
open Go.RowKit

theorem flat_nil' {a : Option Addr} {n c : Nat} (h : Flat a n c) : a = none → c = 0 := by
  rintro rfl
  rcases h with ⟨_, _, h⟩ | ⟨_, _, h⟩
  · exact h
  · cases h
theorem isA_app' {a b : List Int} (h1 : IsA a) (h2 : IsA b) : IsA (a ++ b) := isA_iff.2 fun z hz => (List.mem_append.1 hz).elim (isA_iff.1 h1 z) (isA_iff.1 h2 z)
theorem own_new' (w : World) (B : Nat) (hB : B ≤ w.heap.size) : (w.alloc (.cells #[] 27)).ownsRow B 27 1 (.slice (some ⟨w.heap.size, 0, none⟩) 0 0) 0 [] :=
  ⟨rfl, .inr ⟨_, 0, #[], rfl, hB, Go.Deep.blk_alloc_new _ _, Nat.le_refl _, by decide, rfl, rfl⟩⟩
theorem mk_uni (a b : List Int) : mk (a ++ b) = uni (mk a) (mk b) := inc_ext (mk_inc _) (uni_inc (mk_inc _) (mk_inc _)) fun x => by rw [mk_mem, uni_mem (mk_inc _) (mk_inc _), mk_mem, mk_mem, List.mem_append]
set_option maxRecDepth 100000 in
set_option maxHeartbeats 4000000 in
theorem rUnion (a b : Option Addr) (n m ca cb : Nat) (xs ys : List Int) (w : World) (hx : xs.length = n) (hy : ys.length = m) (hn : n ≤ 40000) (hm : m ≤ 40000) (h1 : As w a xs) (h2 : As w b ys) (f1 : a = none → ca = 0) (f2 : b = none → cb = 0) :
    Calls Try.prog 77 #[.slice a n ca, .slice b m cb] w fun e w' => Out w e w' (mk (xs ++ ys)) := by
  have HX := Lib.hid hx
  have HY := Lib.hid hy
  have H1 := Lib.hid h1
  have H2 := Lib.hid h2
  have F1 := Lib.hid f1
  have F2 := Lib.hid f2
  clear hx hy h1 h2 f1 f2
  go_enter Try.func77, Try.ntmps77
  go_wp2_with (first | (refine wpList_app_as rfl (.tmp 5) (.tmp 6) rfl w.heap.size _ 0 [] rfl (own_new' w w.heap.size (Nat.le_refl _)) rfl a n ca xs rfl HX.out (H1.out.below (bel1 w _)) F1.out (by omega) (by simp) ?_; intro a1 c1 wa o1 g1; have G1 := Lib.hid ((bel1 w _).trans (grown_below (own_new' w w.heap.size (Nat.le_refl _)) g1.out (by simp))); clear g1; have o1 := o1.out; rw [Nat.zero_add, List.nil_append] at o1; have O1 := Lib.hid o1; clear o1) | (refine wpList_app_as rfl (.tmp 7) (.tmp 8) rfl w.heap.size _ n xs rfl O1.out HX.out b m cb ys rfl HY.out (H2.out.below G1.out) F2.out (by omega) G1.out.size ?_; intro a2 c2 wb o2 g2; have G2 := Lib.hid (G1.out.trans (grown_below O1.out g2.out G1.out.size)); clear g2))
  have hS := (AsO.of (by simp [HX.out, HY.out]) o2.out).as (isA_app' H1.out.2 H2.out.2)
  have HS := Lib.hid hS
  clear hS
  refine (rMake a2 (n + m) c2 (xs ++ ys) _ (by rw [List.length_append, HX.out, HY.out]) (by omega) HS.out).mono ?_
  rintro e w3 ⟨⟨a3, c3, rfl, hA, hF⟩, hB⟩
  have HA := Lib.hid hA
  have HF := Lib.hid hF
  have HB := Lib.hid (G2.out.trans (hB.mono G2.out.size))
  clear hA hF hB
  go_wp2_with fail
  go_ret
  exact ⟨⟨a3, c3, rfl, HA.out, HF.out⟩, HB.out⟩
end Go.Proofs.Ytmcbbccbonadjaa
/- The document's own Wants and Same. -/
namespace Go.Proofs.Ytmcbbccbonadjaa
set_option linter.unusedVariables false
open Go.RowKit

set_option maxRecDepth 100000 in
set_option maxHeartbeats 4000000 in
theorem rWants (ex : Bool) (a : Option Addr) (n c : Nat) (xs : List Int) (x : Int) (w : World) (hx : xs.length = n) (hm : n ≤ 1000000000) (h : As w a xs) :
    Calls Try.prog 38 #[.agg #[.bool ex, .slice a n c], .int .u32 x] w fun e w' => e = .returned (.bool (decide (x ∈ xs) != ex)) ∧ Below w.heap.size w w' := by
  have H : ∀ w', Below w.heap.size w w' → Calls Try.prog 39 #[.slice a n c, .int .u32 x] w' fun e w2 => e = .returned (.bool (decide (x ∈ xs))) ∧ w2 = w' := fun w' hb => rHas a n c xs x w' hx hm (h.below hb)
  have HH := Lib.hid H
  clear H h
  go_enter Try.func38, Try.ntmps38
  go_wp2_with fail
  have hN := Go.Deep.blk_alloc_new w (.cells #[.bool ex, .slice a n c] 25)
  have c0 : (w.alloc (.cells #[.bool ex, .slice a n c] 25)).cell? ⟨w.heap.size, 0, none⟩ = some (.bool ex) := by simp only [World.cell?, hN]; rfl
  have c1 : (w.alloc (.cells #[.bool ex, .slice a n c] 25)).cell? ⟨w.heap.size, 1, none⟩ = some (.slice a n c) := by simp only [World.cell?, hN]; rfl
  clear hN
  have hb : Below w.heap.size w (w.alloc (.cells #[.bool ex, .slice a n c] 25)) := bel1 w _
  have HB := Lib.hid hb
  clear hb
  generalize w.alloc (.cells #[.bool ex, .slice a n c] 25) = w1 at *
  have c2 : ∀ q, (w1.drewN q).cell? ⟨w.heap.size, 0, none⟩ = some (.bool ex) := fun q => by rw [← c0]; rfl
  have c3 : ∀ q, (w1.drewN q).cell? ⟨w.heap.size, 1, none⟩ = some (.slice a n c) := fun q => by rw [← c1]; rfl
  go_quiet ((exact Calls.quiet_of_same (HH.out _ (bdrawn HB.out _))))
  go_wp2_with fail
  go_ret
  exact ⟨rfl, bdrawn HB.out nq⟩
set_option maxRecDepth 100000 in
set_option maxHeartbeats 4000000 in
theorem rSameF (e1 e2 : Bool) (a b : Option Addr) (n m c d : Nat) (xs ys : List Int) (w : World) (hx : xs.length = n) (hy : ys.length = m) (hm : n ≤ 1000000000) (h1 : As w a xs) (h2 : As w b ys) (he : e1 = e2) :
    Calls Try.prog 31 #[.agg #[.bool e1, .slice a n c], .agg #[.bool e2, .slice b m d]] w fun e w' => e = .returned (.bool (decide (xs = ys))) ∧ Below w.heap.size w w' := by
  subst he
  have HX := Lib.hid hx
  have HY := Lib.hid hy
  have H1 := Lib.hid h1
  have H2 := Lib.hid h2
  clear hx hy h1 h2
  go_enter Try.func31, Try.ntmps31
  cases e1
  all_goals
    go_wp2_with fail
    refine (rRows a b n m c d xs ys _ HX.out HY.out (by omega) ((H1.out.below (bel1 w _)).below (bel1 _ _)) ((H2.out.below (bel1 w _)).below (bel1 _ _))).mono ?_
    rintro e w2 ⟨rfl, hB⟩
    have HB := Lib.hid (((bel1 w _).alloc (by simp) _).trans (hB.mono (by simp; omega)))
    clear hB
    obtain ⟨eb, heb⟩ : ∃ eb, decide (xs = ys) = eb := ⟨_, rfl⟩
    rw [heb]
    go_wp2_with fail
    go_ret
    exact ⟨by simp [heb], HB.out⟩
end Go.Proofs.Ytmcbbccbonadjaa
/- The document's own Filter. -/
namespace Go.Proofs.Ytmcbbccbonadjaa
set_option linter.unusedVariables false
open Go.RowKit

theorem mk_mk (l s : List Int) : mk (mk l ++ s) = mk (l ++ s) := by rw [mk_uni, mk_uni, mk_of (mk_inc l)]
theorem wo_tot (fs : List Flt) : (wo fs).length ≤ tot fs := by
  induction fs with
  | nil => simp [wo, tot]
  | cons f r ih =>
    have e : wo (f :: r) = (if f.ex then [] else f.srcs) ++ wo r := by cases hx : f.ex <;> simp [wo, hx]
    rw [e, List.length_append]
    have : (if f.ex = true then ([] : List Int) else f.srcs).length ≤ f.srcs.length := by
      split
      · simp
      · exact Nat.le_refl _
    simp only [tot]
    omega
set_option maxRecDepth 100000 in
set_option maxHeartbeats 8000000 in
theorem rFilter (a : Option Addr) (n c : Nat) (fs : List Flt) (w : World) (hx : fs.length = n) (hok : (∀ f ∈ fs, Inc f.srcs) ∧ tot fs ≤ 2000) (hF : Fls w a fs) :
    Calls Try.prog 56 #[.slice a n c] w fun e w' => OutF w e w' (flt fs) := by
  have hn : n ≤ 2000 := by have h1 := tot_len fs; have h2 := hok.2; omega
  have HX := Lib.hid hx
  have HF := Lib.hid hF
  have HO := Lib.hid hok
  have HT := Lib.hid (fun k => Nat.le_trans (tot_take fs k) hok.2)
  clear hx hF hok
  go_enter Try.func56, Try.ntmps56
  go_wp2
  go_loopw [3, 4, 5, 6] (fun v3 v4 v5 v6 wr => ∃ (k : Nat) (a3 a4 : Option Addr) (c3 c4 : Nat) (lo : List Int) (eb : Bool), v6 = .int .i64 (k : Int) ∧ k ≤ n ∧ v3 = .slice a3 (mk (wo (fs.take k))).length c3 ∧ As wr a3 (mk (wo (fs.take k))) ∧ Flat a3 (mk (wo (fs.take k))).length c3 ∧ v4 = .slice a4 lo.length c4 ∧ As wr a4 lo ∧ v5 = .bool eb ∧ ((withs (fs.take k) = [] ∧ eb = false) ∨ (∃ f0 r, withs (fs.take k) = f0 :: r ∧ lo = r.foldl (fun l g => int l g.srcs) f0.srcs ∧ eb = true)) ∧ lo.length ≤ 2000 ∧ Inc lo ∧
      Below w.heap.size w wr ∧ wr.heap[w.heap.size]? = some (.cells #[.bool false, .slice none 0 0] 25 (0, 0))) (fun _ _ _ v _ => n - (intOf v).toNat)
  case atStart => exact ⟨0, none, none, 0, 0, [], false, rfl, by omega, rfl, As.nil _ _, .inl ⟨rfl, rfl, rfl⟩, rfl, As.nil _ _, rfl, .inl ⟨rfl, rfl⟩, by simp, inc_nil, bel1 w _, Go.Deep.blk_alloc_new _ _⟩
  case round =>
    obtain ⟨k, a3, a4, c3, c4, lo, eb, rfl, hk, rfl, h3, f3, rfl, h4, rfl, hd, hlo, hil, hB, hR⟩ := hrel
    have H3 := Lib.hid h3
    have F3 := Lib.hid f3
    have H4 := Lib.hid h4
    have HD := Lib.hid hd
    have HIL := Lib.hid hil
    have HB := Lib.hid hB
    have HR := Lib.hid hR
    have hNs : w.heap.size < wr.heap.size := (Array.getElem?_eq_some_iff.1 hR).1
    have hl3 : (mk (wo (fs.take k))).length ≤ 2000 := Nat.le_trans (mk_len _) (Nat.le_trans (wo_tot _) (HT.out k))
    clear h3 f3 h4 hd hil hB hR
    by_cases hlt : k < n
    · obtain ⟨b, off, rfl, hc⟩ := HF.out.at (k := k) (by rw [HX.out]; exact hlt)
      obtain ⟨⟨ex, srcs, fa, fc⟩, hfk⟩ : ∃ f, fs[k]? = some f := ⟨_, List.getElem?_eq_getElem (by rw [HX.out]; exact hlt)⟩
      obtain ⟨⟨c0, c1⟩, hok⟩ := (hc k _ hfk).below HB.out
      simp only [Flt.sl] at c1
      have hmem := List.mem_of_getElem? hfk
      have hs : srcs.length ≤ 2000 := Nat.le_trans (tot_mem hmem) HO.out.2
      have HIS : Hid (Inc srcs) := Lib.hid (HO.out.1 _ hmem)
      have HOK := Lib.hid hok
      have HFK := Lib.hid hfk
      have hkz : (k : Int) < (n : Int) := by omega
      clear hc hok hfk hmem
      cases ex
      · go_wp2_with fail
        refine (rUnion a3 fa _ srcs.length c3 fc (mk (wo (fs.take k))) srcs _ rfl rfl (by omega) (by omega) H3.out HOK.out.1 (flat_nil' F3.out) HOK.out.2).mono ?_
        rintro e w5 ⟨⟨a5, c5, rfl, hA5, hf5⟩, hB5⟩
        rw [mk_mk] at hA5 hf5 ⊢
        have HA5 := Lib.hid hA5
        have HF5 := Lib.hid hf5
        have HB5 := Lib.hid hB5
        clear hA5 hf5 hB5
        go_wp2_with fail
        go_roundw
        case rel =>
          refine ⟨k + 1, a5, a4, c5, c4, lo, eb, by go_num, by omega, ?_, ?_, ?_, rfl, H4.out.below HB5.out, rfl, ?_, hlo, HIL.out, HB.out.trans (HB5.out.mono HB.out.size), (HB5.out.block _ hNs).trans HR.out⟩
          · rw [take_succ HFK.out, wo_no rfl]
          · rw [take_succ HFK.out, wo_no rfl]; exact HA5.out
          · rw [take_succ HFK.out, wo_no rfl]; exact HF5.out
          · rw [take_succ HFK.out, withs_no rfl]; exact HD.out
        case measure => simp [intOf]; omega
      · cases eb
        · go_wp2_with fail
          go_roundw
          case rel =>
            refine ⟨k + 1, a3, fa, c3, fc, srcs, true, by go_num, by omega, ?_, ?_, ?_, rfl, HOK.out.1, rfl, ?_, hs, HIS.out, HB.out, HR.out⟩
            · rw [take_succ HFK.out, wo_yes rfl]
            · rw [take_succ HFK.out, wo_yes rfl]; exact H3.out
            · rw [take_succ HFK.out, wo_yes rfl]; exact F3.out
            · rw [take_succ HFK.out, withs_yes rfl]
              rcases HD.out with ⟨e1, _⟩ | ⟨_, _, _, _, e1⟩
              · exact .inr ⟨_, [], by rw [e1]; rfl, rfl, rfl⟩
              · cases e1
          case measure => simp [intOf]; omega
        · go_wp2_with fail
          refine (rInter a4 fa _ srcs.length c4 fc lo srcs _ rfl rfl (by omega) (by omega) H4.out HOK.out.1).mono ?_
          rintro e w5 ⟨⟨a5, c5, rfl, hA5, hf5⟩, hB5⟩
          rw [inter_int HIL.out HIS.out] at hA5 ⊢
          have HA5 := Lib.hid hA5
          have HB5 := Lib.hid hB5
          clear hA5 hf5 hB5
          go_wp2_with fail
          go_roundw
          case rel =>
            refine ⟨k + 1, a3, a5, c3, c5, int lo srcs, true, by go_num, by omega, ?_, ?_, ?_, rfl, HA5.out, rfl, ?_, Nat.le_trans (int_len _ _) hlo, int_inc HIL.out HIS.out, HB.out.trans (HB5.out.mono HB.out.size), (HB5.out.block _ hNs).trans HR.out⟩
            · rw [take_succ HFK.out, wo_yes rfl]
            · rw [take_succ HFK.out, wo_yes rfl]; exact H3.out.below HB5.out
            · rw [take_succ HFK.out, wo_yes rfl]; exact F3.out
            · rw [take_succ HFK.out, withs_yes rfl]
              rcases HD.out with ⟨_, e1⟩ | ⟨f0, r, e1, e2, _⟩
              · cases e1
              · exact .inr ⟨f0, r ++ [_], by rw [e1]; rfl, by rw [List.foldl_append, ← e2]; rfl, rfl⟩
          case measure => simp [intOf]; omega
    · obtain rfl : k = n := by omega
      have htk : fs.take k = fs := List.take_of_length_le (by rw [HX.out]; exact Nat.le_refl _)
      have H3' := H3.out
      have F3' := F3.out
      have HD' := HD.out
      rw [htk] at H3' F3' HD' hl3 ⊢
      clear H3 F3 HD htk
      have H3 := Lib.hid H3'
      have F3 := Lib.hid F3'
      clear H3' F3'
      rcases HD' with ⟨hw, rfl⟩ | ⟨f0, r, hw, hlr, rfl⟩
      · have HFL := Lib.hid (flt_nil hw)
        obtain ⟨⟨⟨r0, r1⟩, q0, q1⟩, hl, hA', hb'⟩ := fin_filter HR.out HB.out H3.out false c3
        have HL := Lib.hid hl
        have HA' := Lib.hid hA'
        have HB' := Lib.hid hb'
        clear hw hl hA' hb'
        go_wp2_with fail
        refine ret_cell1 (p := 2) rfl rfl rfl HL.out ?_
        rw [HFL.out]
        exact ⟨⟨a3, c3, rfl, HA'.out, F3.out⟩, HB'.out⟩
      · have hfl := flt_cons hw
        rw [← hlr] at hfl
        have HFL := Lib.hid hfl
        clear hw hlr hfl
        go_wp2_with fail
        refine (rMinus a4 a3 _ _ c4 c3 lo (mk (wo fs)) _ rfl rfl (by omega) (by omega) H4.out H3.out).mono ?_
        rintro e w6 ⟨⟨a6, c6, rfl, hA6, hf6⟩, hB6⟩
        rw [minus_dif HIL.out (mk_inc _)] at hA6 hf6 ⊢
        have HF6 := Lib.hid hf6
        obtain ⟨⟨⟨r0, r1⟩, q0, q1⟩, hl, hA', hb'⟩ := fin_filter ((hB6.block _ hNs).trans HR.out) (HB.out.trans (hB6.mono HB.out.size)) hA6 true c6
        have HL := Lib.hid hl
        have HA' := Lib.hid hA'
        have HB' := Lib.hid hb'
        clear hl hA' hb' hA6 hf6 hB6
        go_wp2_with fail
        refine ret_cell1 (p := 2) rfl rfl rfl HL.out ?_
        rw [HFL.out]
        exact ⟨⟨a6, c6, rfl, HA'.out, HF6.out⟩, HB'.out⟩
end Go.Proofs.Ytmcbbccbonadjaa
