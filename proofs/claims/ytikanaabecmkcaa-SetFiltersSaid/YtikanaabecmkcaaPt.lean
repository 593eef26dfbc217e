/- The document's own Filter. -/
import Derived.Test.YtikanaabecmkcaaPs
namespace Go.Proofs.Ytikanaabecmkcaa
set_option linter.unusedVariables false
open Go.RowKit

theorem mk_mk (l s : List Int) : mk (mk l ++ s) = mk (l ++ s) := by rw [mk_uni, mk_uni, mk_of (mk_inc l)]
theorem wo_tot (fs : List Flt) : (wo fs).length ≤ tot fs := by
  induction fs with
  | nil => simp [wo, tot]
  | cons f r ih =>
    have e : wo (f :: r) = (if f.ex then [] else f.srcs) ++ wo r := by cases hx : f.ex <;> simp [wo, hx]
    rw [e, List.length_append]
    have : (if f.ex = true then ([] : List Int) else f.srcs).length ≤ f.srcs.length := by
      split
      · simp
      · exact Nat.le_refl _
    simp only [tot]
    omega
set_option maxRecDepth 100000 in
set_option maxHeartbeats 8000000 in
theorem rFilter (a : Option Addr) (n c : Nat) (fs : List Flt) (w : World) (hx : fs.length = n) (hok : okF fs) (hF : Fls w a fs) :
    Calls Try.prog 29 #[.slice a n c] w fun e w' => OutF w e w' (flt fs) := by
  have hn : n ≤ 200 := by have h1 := tot_len fs; have h2 := hok.2; omega
  have HX := Lib.hid hx
  have HF := Lib.hid hF
  have HO := Lib.hid hok
  have HT := Lib.hid (fun k => Nat.le_trans (tot_take fs k) hok.2)
  clear hx hF hok
  go_enter Try.func29, Try.ntmps29
  go_wp2
  go_loopw [3, 4, 5, 6] (fun v3 v4 v5 v6 wr => ∃ (k : Nat) (a3 a4 : Option Addr) (c3 c4 : Nat) (lo : List Int) (eb : Bool), v6 = .int .i64 (k : Int) ∧ k ≤ n ∧ v3 = .slice a3 (mk (wo (fs.take k))).length c3 ∧ As wr a3 (mk (wo (fs.take k))) ∧ Flat a3 (mk (wo (fs.take k))).length c3 ∧ v4 = .slice a4 lo.length c4 ∧ As wr a4 lo ∧ v5 = .bool eb ∧ ((withs (fs.take k) = [] ∧ eb = false) ∨ (∃ f0 r, withs (fs.take k) = f0 :: r ∧ lo = r.foldl (fun l g => int l g.srcs) f0.srcs ∧ eb = true)) ∧ lo.length ≤ 200 ∧ Inc lo ∧
      Below w.heap.size w wr ∧ wr.heap[w.heap.size]? = some (.cells #[.bool false, .slice none 0 0] 35 (0, 0))) (fun _ _ _ v _ => n - (intOf v).toNat)
  case atStart => exact ⟨0, none, none, 0, 0, [], false, rfl, by omega, rfl, As.nil _ _, .inl ⟨rfl, rfl, rfl⟩, rfl, As.nil _ _, rfl, .inl ⟨rfl, rfl⟩, by simp, inc_nil, bel1 w _, Go.Deep.blk_alloc_new _ _⟩
  case round =>
    obtain ⟨k, a3, a4, c3, c4, lo, eb, rfl, hk, rfl, h3, f3, rfl, h4, rfl, hd, hlo, hil, hB, hR⟩ := hrel
    have H3 := Lib.hid h3
    have F3 := Lib.hid f3
    have H4 := Lib.hid h4
    have HD := Lib.hid hd
    have HIL := Lib.hid hil
    have HB := Lib.hid hB
    have HR := Lib.hid hR
    have hNs : w.heap.size < wr.heap.size := (Array.getElem?_eq_some_iff.1 hR).1
    have hl3 : (mk (wo (fs.take k))).length ≤ 200 := Nat.le_trans (mk_len _) (Nat.le_trans (wo_tot _) (HT.out k))
    clear h3 f3 h4 hd hil hB hR
    by_cases hlt : k < n
    · obtain ⟨b, off, rfl, hc⟩ := HF.out.at (k := k) (by rw [HX.out]; exact hlt)
      obtain ⟨⟨ex, srcs, fa, fc⟩, hfk⟩ : ∃ f, fs[k]? = some f := ⟨_, List.getElem?_eq_getElem (by rw [HX.out]; exact hlt)⟩
      obtain ⟨⟨c0, c1⟩, hok⟩ := (hc k _ hfk).below HB.out
      simp only [Flt.sl] at c1
      have hmem := List.mem_of_getElem? hfk
      have hs : srcs.length ≤ 200 := Nat.le_trans (tot_mem hmem) HO.out.2
      have HIS : Hid (Inc srcs) := Lib.hid (HO.out.1 _ hmem)
      have HOK := Lib.hid hok
      have HFK := Lib.hid hfk
      have hkz : (k : Int) < (n : Int) := by omega
      clear hc hok hfk hmem
      cases ex
      · go_wp2_with fail
        refine (rUnion a3 fa _ srcs.length c3 fc (mk (wo (fs.take k))) srcs _ rfl rfl (by omega) (by omega) H3.out HOK.out.1 (flat_nil' F3.out) HOK.out.2).mono ?_
        rintro e w5 ⟨⟨a5, c5, rfl, hA5, hf5⟩, hB5⟩
        rw [mk_mk] at hA5 hf5 ⊢
        have HA5 := Lib.hid hA5
        have HF5 := Lib.hid hf5
        have HB5 := Lib.hid hB5
        clear hA5 hf5 hB5
        go_wp2_with fail
        go_roundw
        case rel =>
          refine ⟨k + 1, a5, a4, c5, c4, lo, eb, by go_num, by omega, ?_, ?_, ?_, rfl, H4.out.below HB5.out, rfl, ?_, hlo, HIL.out, HB.out.trans (HB5.out.mono HB.out.size), (HB5.out.block _ hNs).trans HR.out⟩
          · rw [take_succ HFK.out, wo_no rfl]
          · rw [take_succ HFK.out, wo_no rfl]; exact HA5.out
          · rw [take_succ HFK.out, wo_no rfl]; exact HF5.out
          · rw [take_succ HFK.out, withs_no rfl]; exact HD.out
        case measure => simp [intOf]; omega
      · cases eb
        · go_wp2_with fail
          go_roundw
          case rel =>
            refine ⟨k + 1, a3, fa, c3, fc, srcs, true, by go_num, by omega, ?_, ?_, ?_, rfl, HOK.out.1, rfl, ?_, hs, HIS.out, HB.out, HR.out⟩
            · rw [take_succ HFK.out, wo_yes rfl]
            · rw [take_succ HFK.out, wo_yes rfl]; exact H3.out
            · rw [take_succ HFK.out, wo_yes rfl]; exact F3.out
            · rw [take_succ HFK.out, withs_yes rfl]
              rcases HD.out with ⟨e1, _⟩ | ⟨_, _, _, _, e1⟩
              · exact .inr ⟨_, [], by rw [e1]; rfl, rfl, rfl⟩
              · cases e1
          case measure => simp [intOf]; omega
        · go_wp2_with fail
          refine (rInter a4 fa _ srcs.length c4 fc lo srcs _ rfl rfl (by omega) (by omega) H4.out HOK.out.1).mono ?_
          rintro e w5 ⟨⟨a5, c5, rfl, hA5, hf5⟩, hB5⟩
          rw [inter_int HIL.out HIS.out] at hA5 ⊢
          have HA5 := Lib.hid hA5
          have HB5 := Lib.hid hB5
          clear hA5 hf5 hB5
          go_wp2_with fail
          go_roundw
          case rel =>
            refine ⟨k + 1, a3, a5, c3, c5, int lo srcs, true, by go_num, by omega, ?_, ?_, ?_, rfl, HA5.out, rfl, ?_, Nat.le_trans (int_len _ _) hlo, int_inc HIL.out HIS.out, HB.out.trans (HB5.out.mono HB.out.size), (HB5.out.block _ hNs).trans HR.out⟩
            · rw [take_succ HFK.out, wo_yes rfl]
            · rw [take_succ HFK.out, wo_yes rfl]; exact H3.out.below HB5.out
            · rw [take_succ HFK.out, wo_yes rfl]; exact F3.out
            · rw [take_succ HFK.out, withs_yes rfl]
              rcases HD.out with ⟨_, e1⟩ | ⟨f0, r, e1, e2, _⟩
              · cases e1
              · exact .inr ⟨f0, r ++ [_], by rw [e1]; rfl, by rw [List.foldl_append, ← e2]; rfl, rfl⟩
          case measure => simp [intOf]; omega
    · obtain rfl : k = n := by omega
      have htk : fs.take k = fs := List.take_of_length_le (by rw [HX.out]; exact Nat.le_refl _)
      have H3' := H3.out
      have F3' := F3.out
      have HD' := HD.out
      rw [htk] at H3' F3' HD' hl3 ⊢
      clear H3 F3 HD htk
      have H3 := Lib.hid H3'
      have F3 := Lib.hid F3'
      clear H3' F3'
      rcases HD' with ⟨hw, rfl⟩ | ⟨f0, r, hw, hlr, rfl⟩
      · have HFL := Lib.hid (flt_nil hw)
        obtain ⟨⟨⟨r0, r1⟩, q0, q1⟩, hl, hA', hb'⟩ := fin_filter HR.out HB.out H3.out false c3
        have HL := Lib.hid hl
        have HA' := Lib.hid hA'
        have HB' := Lib.hid hb'
        clear hw hl hA' hb'
        go_wp2_with fail
        refine ret_cell1 (p := 2) rfl rfl rfl HL.out ?_
        rw [HFL.out]
        exact ⟨⟨a3, c3, rfl, HA'.out, F3.out⟩, HB'.out⟩
      · have hfl := flt_cons hw
        rw [← hlr] at hfl
        have HFL := Lib.hid hfl
        clear hw hlr hfl
        go_wp2_with fail
        refine (rMinus a4 a3 _ _ c4 c3 lo (mk (wo fs)) _ rfl rfl (by omega) (by omega) H4.out H3.out).mono ?_
        rintro e w6 ⟨⟨a6, c6, rfl, hA6, hf6⟩, hB6⟩
        rw [minus_dif HIL.out (mk_inc _)] at hA6 hf6 ⊢
        have HF6 := Lib.hid hf6
        obtain ⟨⟨⟨r0, r1⟩, q0, q1⟩, hl, hA', hb'⟩ := fin_filter ((hB6.block _ hNs).trans HR.out) (HB.out.trans (hB6.mono HB.out.size)) hA6 true c6
        have HL := Lib.hid hl
        have HA' := Lib.hid hA'
        have HB' := Lib.hid hb'
        clear hl hA' hb' hA6 hf6 hB6
        go_wp2_with fail
        refine ret_cell1 (p := 2) rfl rfl rfl HL.out ?_
        rw [HFL.out]
        exact ⟨⟨a6, c6, rfl, HA'.out, HF6.out⟩, HB'.out⟩
end Go.Proofs.Ytikanaabecmkcaa
