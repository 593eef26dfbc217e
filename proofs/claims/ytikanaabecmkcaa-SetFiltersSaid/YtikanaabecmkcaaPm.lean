/- The law's 'filters'; filters that came in. -/
import Derived.Test.YtikanaabecmkcaaPl
namespace Go.Proofs.Ytikanaabecmkcaa
set_option linter.unusedVariables false
open Go.ChangeShapes Go.WideShapes Go.ChangeAt Go.RowKit Go.Deep

def tot : List Flt → Nat
  | [] => 0
  | f :: r => 1 + f.srcs.length + tot r
theorem tot_app (a b : List Flt) : tot (a ++ b) = tot a + tot b := by
  induction a with
  | nil => simp [tot]
  | cons f r ih => simp [tot, ih]; omega
theorem tot_succ {fs : List Flt} {k : Nat} {f : Flt} (h : fs[k]? = some f) : tot (fs.take (k + 1)) = tot (fs.take k) + 1 + f.srcs.length := by
  rw [take_succ h, tot_app]; simp [tot]; omega
theorem tot_take (fs : List Flt) (k : Nat) : tot (fs.take k) ≤ tot fs := by
  have := tot_app (fs.take k) (fs.drop k)
  rw [List.take_append_drop] at this
  omega
theorem tot_len (fs : List Flt) : fs.length ≤ tot fs := by
  induction fs with
  | nil => simp [tot]
  | cons f r ih => simp [tot]; omega
theorem tot_mem {fs : List Flt} {f : Flt} (h : f ∈ fs) : f.srcs.length ≤ tot fs := by
  induction fs with
  | nil => cases h
  | cons g r ih =>
    simp only [tot]
    rcases List.mem_cons.1 h with rfl | h
    · omega
    · have := ih h; omega
/-- Few filters, of sets. -/
def okF (fs : List Flt) : Prop := (∀ f ∈ fs, Inc f.srcs) ∧ tot fs ≤ 200
instance (fs : List Flt) : Decidable (okF fs) := by unfold okF; infer_instance
theorem okF.few {fs : List Flt} (h : okF fs) : FewF fs := ⟨by have := tot_len fs; have := h.2; omega, fun f hf => by have := tot_mem hf; have := h.2; omega⟩
set_option maxRecDepth 100000 in
set_option maxHeartbeats 4000000 in
theorem rFilters (a : Option Addr) (n c : Nat) (fs : List Flt) (w : World) (hx : fs.length = n) (hn : n ≤ 1125899906842624) (hl : ∀ f ∈ fs, f.srcs.length ≤ 1125899906842624) (hF : Fls w a fs) :
    Calls Try.prog 26 #[.slice a n c] w fun e w' => e = .returned (.bool (decide (okF fs))) ∧ Below w.heap.size w w' := by
  have HX := Lib.hid hx
  have HF := Lib.hid hF
  have HL := Lib.hid hl
  clear hx hF hl
  go_enter Try.func26, Try.ntmps26
  go_wp2
  go_loopw [3, 4] (fun v3 v4 wr => ∃ k : Nat, v3 = .int .i64 (tot (fs.take k) : Int) ∧ v4 = .int .i64 (k : Int) ∧ k ≤ n ∧ tot (fs.take k) ≤ 200 ∧ (∀ f ∈ fs.take k, Inc f.srcs) ∧ Below w.heap.size w wr) (fun _ v _ => n - (intOf v).toNat)
  case atStart => exact ⟨0, rfl, rfl, by omega, by simp [tot], by simp, Below.refl _ _⟩
  case round =>
    obtain ⟨k, rfl, rfl, hk, ht, hi, hB⟩ := hrel
    have HI := Lib.hid hi
    have HB := Lib.hid hB
    clear hi hB
    by_cases hlt : k < n
    · obtain ⟨b, off, rfl, hc⟩ := HF.out.at (k := k) (by rw [HX.out]; exact hlt)
      obtain ⟨⟨ex, srcs, fa, fc⟩, hfk⟩ : ∃ f, fs[k]? = some f := ⟨_, List.getElem?_eq_getElem (by rw [HX.out]; exact hlt)⟩
      obtain ⟨⟨c0, c1⟩, hok⟩ := (hc k _ hfk).below HB.out
      simp only [Flt.sl] at c1
      have hs : srcs.length ≤ 1125899906842624 := HL.out _ (List.mem_of_getElem? hfk)
      have HOK := Lib.hid hok
      have HS := Lib.hid (tot_succ hfk)
      have HFK := Lib.hid hfk
      have hm := Lib.hid (List.mem_of_getElem? hfk)
      have htt := Lib.hid (tot_take fs (k + 1))
      clear hc hok hfk
      have hkz : (k : Int) < (n : Int) := by omega
      obtain ⟨t, htk⟩ : ∃ t, tot (fs.take k) = t := ⟨_, rfl⟩
      have HT := Lib.hid htk
      rw [htk] at ht ⊢
      clear htk
      obtain ⟨m, hsm⟩ : ∃ m, srcs.length = m := ⟨_, rfl⟩
      have HSM := Lib.hid hsm
      rw [hsm] at hs c1
      clear hsm
      by_cases hbig : t + 1 + m ≤ 200
      · have hg : decide ((200 : Int) < (t : Int) + 1 + (m : Int)) = false := decide_eq_false (by omega)
        go_wp2_with fail
        refine (rRight fa m fc srcs _ HSM.out (by omega) HOK.out.1).mono ?_
        rintro e w2 ⟨rfl, hB2⟩
        have HB2 := Lib.hid (HB.out.trans (hB2.mono HB.out.size))
        clear hB2
        by_cases hinc : Inc srcs
        · rw [decide_eq_true hinc]
          have HIN := Lib.hid hinc
          clear hinc
          go_wp2_with fail
          go_roundw
          case rel =>
            have e3 := HS.out
            rw [HT.out, HSM.out] at e3
            refine ⟨k + 1, by rw [e3]; go_num, by go_num, by omega, by rw [e3]; exact hbig, ?_, HB2.out⟩
            rw [take_succ HFK.out]
            intro f hf
            rcases List.mem_append.1 hf with h | h
            · exact HI.out f h
            · simp at h; subst h; exact HIN.out
          case measure => simp [intOf]; omega
        · rw [decide_eq_false hinc]
          have HIN := Lib.hid hinc
          clear hinc
          go_wp2_with fail
          go_ret
          exact ⟨ret_bool (decide_eq_false fun h => HIN.out (h.1 _ hm.out)).symm, HB2.out⟩
      · have hg : (200 : Int) < (t : Int) + 1 + (m : Int) := by omega
        go_wp2_with fail
        go_ret
        refine ⟨ret_bool (decide_eq_false fun h => ?_).symm, HB.out⟩
        have e3 := HS.out
        rw [HT.out, HSM.out] at e3
        have := htt.out
        have := h.2
        omega
    · obtain rfl : k = n := by omega
      have htk : fs.take k = fs := List.take_of_length_le (by rw [HX.out]; exact Nat.le_refl _)
      have HI' := HI.out
      rw [htk] at ht HI'
      have HO := Lib.hid (show okF fs from ⟨HI', ht⟩)
      clear HI' HI ht htk
      go_wp2_with fail
      go_ret
      exact ⟨ret_bool (decide_eq_true HO.out).symm, HB.out⟩

section
variable {H : Type} {enc : TypeId × Value → H} {w : World} {base : Nat} {held : Bool}
theorem open_flt0 {fuel : Nat} {c0 c1 : Value} {y : DataW H × List MemPlace} {b o : Nat} (h : DataW.trod enc Try.prog w base (fun _ => true) held fuel 35 [c0, c1] = some y) (hz : ∀ n ∈ y.1.weights Try.prog 35, n ≤ reachBytes)
    (h0 : w.cell? ⟨b, o, none⟩ = some c0) (h1 : w.cell? ⟨b, o + 1, none⟩ = some c1) : ∃ r : Flt, FAt w b o r ∧ r.srcs.length ≤ 1125899906842624 := by
  obtain ⟨xs, n, _, hx, _, hlen, hg⟩ := DataW.trod_struct Try.underlying35 h
  have hl3 : xs.length = 2 := by rw [hlen]; rfl
  have g0 := get_field hg 0 0 4 1 rfl rfl rfl (by kernel_rfl) (by omega)
  have g1 := get_field hg 1 1 22 1 rfl rfl rfl (by kernel_rfl) (by omega)
  obtain ⟨t, q0, _⟩ := DataW.trod_bool Try.underlying4 g0
  have hw1 : ∀ n ∈ (xs[1]'(by omega)).1.weights Try.prog 22, n ≤ reachBytes := by
    intro n hn
    refine hz n ?_
    rw [hx]
    unfold DataW.weights
    simp only [Try.underlying35]
    exact DataW.weights_mem_each (j := 1) rfl (by rw [List.getElem?_map, List.getElem?_eq_getElem (by omega)]; rfl) n hn
  obtain ⟨a, cp, zs, q1, ha, hn, hnil⟩ := open_as g1 hw1
  simp at q0
  subst q0 q1
  exact ⟨⟨t, zs, a, cp⟩, ⟨⟨h0, h1⟩, ha, hnil⟩, hn⟩
theorem open_flts0 {fuel : Nat} {c : Value} {y : DataW H × List MemPlace} (h : DataW.trod enc Try.prog w base (fun _ => true) held fuel 32 [c] = some y) (hz : ∀ n ∈ y.1.weights Try.prog 32, n ≤ reachBytes) :
    ∃ (a : Option Addr) (cp : Nat) (rs : List Flt), c = .slice a (List.length rs) cp ∧ Fls w a rs ∧ rs.length ≤ 1125899906842624 ∧ (∀ f ∈ rs, f.srcs.length ≤ 1125899906842624) ∧ (a = none → cp = 0) := by
  have e3 : Try.prog.cellsOf 35 = 2 := by kernel_rfl
  have hby : Try.prog.bytesOf 35 = 32 := by kernel_rfl
  rcases open_slice Try.underlying32 h with ⟨hcs, _⟩ | ⟨⟨b, off, spot⟩, len, cap, m, n, D, Pl, hcs, _, hl, hm, hmm, hx, hi⟩
  · simp at hcs
    exact ⟨none, 0, [], hcs, .inl rfl, by simp, by simp, fun _ => rfl⟩
  simp at hcs
  subst hcs
  rw [hx] at hz
  unfold DataW.weights at hz
  simp only [Try.underlying32] at hz
  have hw := hz _ (List.mem_cons_self ..)
  have hlen : len ≤ 1125899906842624 := by
    simp only [List.length_map, List.length_range, hby] at hw
    unfold reachBytes at hw
    omega
  have hs : 0 < len → spot = none := by
    intro h0
    obtain ⟨cs', hc, ht⟩ := hi 0 (by rw [hmm]; simp; omega)
    rw [e3] at hc
    obtain ⟨_, hcl, hat⟩ := World.cells?_some hc
    match cs', hcl with
    | [c0, c1], _ =>
    have a0 := hat 0 (by omega)
    have := World.cell?_spot a0
    simpa [Addr.add] using this
  by_cases h0 : len = 0
  · subst h0
    exact ⟨_, cap, [], rfl, .inl rfl, by simp, by simp, fun e => by cases e⟩
  obtain rfl := hs (by omega)
  have each : ∀ i, i < len → ∃ r : Flt, FAt w b (off + i * 2) r ∧ r.srcs.length ≤ 1125899906842624 := by
    intro i hil
    obtain ⟨cs', hc, ht⟩ := hi i (by rw [hmm]; simp; omega)
    rw [e3] at hc
    obtain ⟨_, hcl, hat⟩ := World.cells?_some hc
    match cs', hcl with
    | [c0, c1], _ =>
    have a0 := hat 0 (by omega)
    have a1 := hat 1 (by omega)
    rw [add_flat, add_flat] at a0 a1
    refine open_flt0 (y := (D i, Pl i)) ht (fun x hx' => hz x ?_) a0 a1
    refine List.mem_cons_of_mem _ (List.mem_append_left _ (weights_all (d := D i) ?_ x hx'))
    exact List.mem_map.2 ⟨i, List.mem_range.2 hil, rfl⟩
  obtain ⟨rs, hrl, hr⟩ := list_of (fun i r => FAt w b (off + i * 2) r ∧ r.srcs.length ≤ 1125899906842624) len each
  subst hrl
  exact ⟨_, cap, rs, rfl, .inr ⟨b, off, rfl, fun k f hk => (hr k f hk).1⟩, hlen, fun f hf => by obtain ⟨i, hi, e⟩ := List.getElem_of_mem hf; exact (hr i f (by rw [List.getElem?_eq_getElem hi, e])).2, fun e => by cases e⟩
/-- A slice of filters that came in. -/
theorem open_flts {r : Reach} {b0 : Nat} {v : Value} {d : DataW H} {p : List MemPlace} (hv : Value.okWide Try.prog w r b0 32 v) (h : DataW.Trod enc Try.prog w base (fun _ => true) held 32 v d p) (hz : ∀ n ∈ d.weights Try.prog 32, n ≤ reachBytes) :
    ∃ (a : Option Addr) (cp : Nat) (rs : List Flt), v = .slice a (List.length rs) cp ∧ Fls w a rs ∧ rs.length ≤ 1125899906842624 ∧ (∀ f ∈ rs, f.srcs.length ≤ 1125899906842624) ∧ (a = none → cp = 0) := by
  obtain ⟨a0, l0, c0, rfl⟩ := okWide_slice Try.underlying32 hv
  obtain ⟨fuel, hf⟩ := h
  exact open_flts0 (c := .slice a0 l0 c0) (y := (d, p)) (by simpa [Value.cells] using hf) hz
end
end Go.Proofs.Ytikanaabecmkcaa
