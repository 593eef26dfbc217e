/- The law DbRoom: every call returns true, and its arguments read behind the call as before it. Condition: none but the row's own. -/
import Derived.Test.YtiabbkjmgaemaaaGreatDB21
namespace Go.Proofs.YtiabbkjmgaemaaaGreat.dbRoom
set_option linter.unusedVariables false
open Go.ChangeShapes Go.WideShapes Go.ChangeAt Go.RowKit
open Go.ChangeMaps (open_string shut_string)

theorem room_len {id : Int} {l : List Plc} (hr : Ris9 l) : ((∃ p, at9 id l = some p) → (ltK id l).length + (1 + (gtK id l).length) = l.length) ∧ (at9 id l = none → (ltK id l).length + (1 + (gtK id l).length) = l.length + 1) := by
  obtain ⟨h1, h2, h3⟩ := found_is id l hr
  rcases h3 with ⟨p, ha, hp, _, hd⟩ | ⟨ha, hd⟩
  · have hlt := (List.getElem?_eq_some_iff.1 hp).1
    refine ⟨fun _ => ?_, fun h => (by rw [ha] at h; cases h)⟩
    rw [← hd, List.length_drop]; omega
  · refine ⟨fun ⟨p, h⟩ => (by rw [ha] at h; cases h), fun _ => ?_⟩
    rw [← hd, List.length_drop]; omega
theorem dif_nil (b : List Int) : dif ([] : List Int) b = [] := by
  unfold dif those
  rw [List.map_eq_nil_iff, List.filter_eq_nil_iff]
  induction b with
  | nil => intro t ht; simp [thr] at ht
  | cons y r ih =>
    intro t ht
    simp only [thr, List.mem_cons] at ht
    rcases ht with rfl | ht
    · simp
    · exact ih t ht
theorem hear2 (kp la v1 v2 g : Int) (ex : Bool) (left : Int) (s : List Hd) : hrP kp la v1 v2 g ex left s 2 [] = ⟨true, kp, exS s (mk []) (if ex then kp else 0), [], 0⟩ := by
  have hmk : mk ([] : List Int) = [] := by decide +kernel
  have hlen : (exS s (mk []) (if ex then kp else 0)).length ≤ 64 := by
    have h1 : ∀ a, a ∉ ad (exS s (mk []) (if ex then kp else 0)) := by
      rw [hmk]
      intro a ha
      unfold exS at ha
      rw [keepS_ad] at ha
      have h2 : (s.filter fun x => decide (x.1 ∈ ([] : List Int))) = [] := by rw [List.filter_eq_nil_iff]; intro x _; simp
      rw [h2] at ha
      have h3 : dif ([] : List Int) (ad s) = [] := by
        exact dif_nil (ad s)
      rw [h3] at ha
      have h4 : uni (ad []) ([] : List Int) = [] := by decide +kernel
      rw [h4] at ha
      cases ha
    cases hh : exS s (mk []) (if ex then kp else 0) with
    | nil => simp
    | cons x r => exact absurd (by rw [hh]; simp [ad]) (h1 x.1)
  unfold hrP letGo srcsP
  simp only [show decide ((2 : Int) = 3) = false by decide, show decide ((2 : Int) = 6) = false by decide, show decide ((2 : Int) = 4) = false by decide, Bool.and_false, Bool.or_false, Bool.false_eq_true, if_false]
  unfold hearP
  rw [if_neg (by omega), if_pos rfl]
  unfold capH hIsEx
  rw [if_pos hlen]
theorem room9 {kp la lim : Int} {l : List Plc} {po g : Int} (hok : okD kp la lim l) : let f := fold9 kp la lim po l [(2, g, [])]
    ((∃ p, at9 (po * 4294967296 + g) l = some p) → f.1.length = l.length ∧ f.2.2 = 0) ∧ (at9 (po * 4294967296 + g) l = none → (lim ≤ l.length → f.1.length = l.length ∧ f.2.2 = 1) ∧ (¬ lim ≤ l.length → f.1.length = l.length + 1 ∧ f.2.2 = 0)) := by
  intro f
  have hl := room_len (id := po * 4294967296 + g) hok.2.2.2.1
  have hlim := hok.2.2.1
  have hf : f = stp kp la lim po (l, [], 0) (2, g, []) := rfl
  generalize hp : (at9 (po * 4294967296 + g) l).getD ⟨po, 0, 0, g, false, 0, [], none, 0⟩ = p
  have hr := hear2 kp la p.v1 p.v2 g p.ex p.left p.s
  have hM : (if sm ⟨po, p.v1, p.v2, g, true, kp, exS p.s (mk []) (if p.ex then kp else 0), none, 0⟩ then [(⟨po, p.v1, p.v2, g, true, kp, exS p.s (mk []) (if p.ex then kp else 0), none, 0⟩ : Plc)] else []) = [⟨po, p.v1, p.v2, g, true, kp, exS p.s (mk []) (if p.ex then kp else 0), none, 0⟩] := by
    rw [if_pos (by unfold sm; simp)]
  have hlen : ((ltK (po * 4294967296 + g) l).map Plc.nm ++ ([(⟨po, p.v1, p.v2, g, true, kp, exS p.s (mk []) (if p.ex then kp else 0), none, 0⟩ : Plc)] ++ (gtK (po * 4294967296 + g) l).map Plc.nm)).length = (ltK (po * 4294967296 + g) l).length + (1 + (gtK (po * 4294967296 + g) l).length) := by
    simp only [List.length_append, List.length_map, List.length_cons, List.length_nil] <;> omega
  by_cases hfull : lim < (((ltK (po * 4294967296 + g) l).length + (1 + (gtK (po * 4294967296 + g) l).length) : Nat) : Int)
  · have h9 := hd9_full (xs := []) (ty := 2) hp hr rfl hM (by rw [hlen]; exact hfull)
    have hfe : f = (l, [], 1) := by rw [hf]; unfold stp; simp only [h9]; rfl
    rw [hfe]
    refine ⟨fun h => ?_, fun h => ⟨fun _ => ⟨rfl, rfl⟩, fun h2 => ?_⟩⟩
    · have h3 := hl.1 h; (first | omega | (rw [h3] at hfull; omega))
    · have h3 := hl.2 h; (first | omega | (rw [h3] at hfull; omega))
  · have h9 := hd9_ok (xs := []) (ty := 2) hp hr rfl hM (by rw [hlen]; exact hfull)
    have hfe : f.1.length = (ltK (po * 4294967296 + g) l).length + (1 + (gtK (po * 4294967296 + g) l).length) ∧ f.2.2 = 0 := by
      rw [hf]; unfold stp; simp only [h9]; exact ⟨hlen, by first | rfl | trivial⟩
    refine ⟨fun h => ⟨hfe.1.trans (hl.1 h), hfe.2⟩, fun h => ⟨fun h2 => ?_, fun _ => ⟨hfe.1.trans (hl.2 h), hfe.2⟩⟩⟩
    have h3 := hl.2 h; (first | omega | (rw [h3] at hfull; omega))
def th9 (l : List Plc) (po g : Int) (i : Nat) : Bool := (l.take i).any fun p => p.port == po && p.g == g
theorem th_step {l : List Plc} {po g : Int} {i : Nat} {p : Plc} (h : l[i]? = some p) : th9 l po g (i + 1) = (th9 l po g i || (p.port == po && p.g == g)) := by
  unfold th9; rw [takeH h, List.any_append]; simp only [List.any_cons, List.any_nil, Bool.or_false]
theorem th_at {l : List Plc} {po g : Int} (hr : Ris9 l) (hb : ∀ p ∈ l, 0 ≤ p.g ∧ p.g ≤ 4294967295) (hg : 0 ≤ g ∧ g ≤ 4294967295) : (th9 l po g l.length = true → ∃ p, at9 (po * 4294967296 + g) l = some p) ∧ (th9 l po g l.length = false → at9 (po * 4294967296 + g) l = none) := by
  unfold th9
  rw [List.take_length]
  constructor
  · intro h
    rw [List.any_eq_true] at h
    obtain ⟨p, hp, h⟩ := h
    simp only [Bool.and_eq_true, beq_iff_eq] at h
    exact ⟨p, at9_some hr hp (by unfold Plc.k; rw [h.1, h.2])⟩
  · intro h
    rw [List.any_eq_false] at h
    refine at9_none fun p hp e => h p hp ?_
    have := (key_eq (p := p.port) (q := po) (hb p hp) hg).1 e
    simp [this.1, this.2]
set_option maxRecDepth 100000 in
set_option maxHeartbeats 16000000 in
theorem walk (w : World) (kp la lim : Int) (a : Option Addr) (c : Nat) (l : List Plc) (hin : DIn w a l) (po : Int) (hpo : -9223372036854775808 ≤ po ∧ po ≤ 9223372036854775807) (g : Int) (hg : 0 ≤ g ∧ g ≤ 4294967295) :
    Calls Tryz.prog 9 #[.agg #[.int .i64 kp, .int .i64 la, .int .i64 lim, .slice a (List.length l) c], .int .i64 po, .int .u32 g] w fun e w' => e = .returned (.bool true) ∧ Below w.heap.size w w' := by
  obtain ⟨n, hn⟩ : ∃ n, l.length = n := ⟨_, rfl⟩
  obtain ⟨hpl, hn0, hsl⟩ := hin
  rw [hn] at hn0 ⊢
  have HX := Lib.hid hn
  have HSL := Lib.hid hsl
  have HGG := Lib.hid hg
  have hb := bel1 w (.cells #[.int .i64 kp, .int .i64 la, .int .i64 lim, .slice a n c] 46)
  have V := Lib.hid (DV.new w kp la lim a n c)
  have HPL := Lib.hid (hpl.below hb)
  have HB := Lib.hid hb
  clear hn hpl hsl hb hg
  go_enter Tryz.func9, Tryz.ntmps9
  go_wp2_with fail
  generalize w.alloc (.cells #[.int .i64 kp, .int .i64 la, .int .i64 lim, .slice a n c] 46) = w1 at *
  refine (dShown w1).mono ?_
  rintro e w1b ⟨rfl, hb⟩
  have hbg := bel1 w1b (.cells #[.int .u8 22, .int .i64 0, .int .u8 0, .int .u32 g, .bool false, .int .u8 0, .int .u8 0, .slice none 0 0, .slice none 0 0] 49)
  have VG := Lib.hid (GV.new w1b 22 0 0 g false 0 0 none 0 0 none 0 0)
  replace V := Lib.hid ((V.out.below hb V.out.lt).below hbg (V.out.below hb V.out.lt).lt)
  replace HPL := Lib.hid ((HPL.out.below hb).below hbg)
  replace HB := Lib.hid ((HB.out.trans (hb.mono HB.out.size)).trans (hbg.mono (HB.out.trans (hb.mono HB.out.size)).size))
  have hvb : w.heap.size < (w1b.alloc (.cells #[.int .u8 22, .int .i64 0, .int .u8 0, .int .u32 g, .bool false, .int .u8 0, .int .u8 0, .slice none 0 0, .slice none 0 0] 49)).heap.size := V.out.lt
  obtain ⟨c0, c1, c2, c3, -⟩ := V.out.cells
  clear hb hbg
  go_wp2_with fail
  generalize w1b.alloc (.cells #[.int .u8 22, .int .i64 0, .int .u8 0, .int .u32 g, .bool false, .int .u8 0, .int .u8 0, .slice none 0 0, .slice none 0 0] 49) = w2 at *
  refine (rFew9 kp la lim a n c l w2 HX.out hn0 HPL.out HSL.out).mono ?_
  rintro e w3 ⟨rfl, hb⟩
  replace V := Lib.hid (V.out.below hb V.out.lt)
  replace VG := Lib.hid (VG.out.below hb VG.out.lt)
  replace HPL := Lib.hid (HPL.out.below hb)
  replace HB := Lib.hid (HB.out.trans (hb.mono HB.out.size))
  clear hb c0 c1 c2 c3
  obtain ⟨c0, c1, c2, c3, -⟩ := V.out.cells
  obtain ⟨fw, hfw⟩ : ∃ f, decide (few l ≤ 2000) = f := ⟨_, rfl⟩
  rw [hfw]
  have HFW := Lib.hid hfw
  clear hfw
  cases fw
  · go_wp2_with fail
    go_ret
    exact ⟨rfl, HB.out⟩
  have hfew := of_decide_eq_true HFW.out
  have hn2k : n ≤ 2000 := by unfold few at hfew; have := HX.out; omega
  have HS2 : Hid (∀ p ∈ l, p.s.length ≤ 2000) := Lib.hid (fun p hp => Nat.le_trans (few_one hp) hfew)
  clear hfew
  go_wp2_with fail
  refine (rRight9 kp la lim a n c l w3 HX.out (by omega) HPL.out (fun p hp => by have := HS2.out p hp; omega)).mono ?_
  rintro e w4 ⟨rfl, hb⟩
  replace V := Lib.hid (V.out.below hb V.out.lt)
  replace VG := Lib.hid (VG.out.below hb VG.out.lt)
  replace HPL := Lib.hid (HPL.out.below hb)
  replace HB := Lib.hid (HB.out.trans (hb.mono HB.out.size))
  clear hb c0 c1 c2 c3
  obtain ⟨c0, c1, c2, c3, -⟩ := V.out.cells
  obtain ⟨ok, hok⟩ : ∃ f, decide (okD kp la lim l) = f := ⟨_, rfl⟩
  rw [hok]
  have HOKB := Lib.hid hok
  clear hok
  cases ok
  · go_wp2_with fail
    go_ret
    exact ⟨rfl, HB.out⟩
  have HOK := Lib.hid (of_decide_eq_true HOKB.out)
  by_cases t0 : po < 0
  · have q0 : decide (po < 0) = true := decide_eq_true t0
    go_wp2_with fail
    go_ret
    exact ⟨rfl, HB.out⟩
  have q0 : decide (po < 0) = false := decide_eq_false t0
  by_cases t1 : 63 < po
  · have q1 : decide (63 < po) = true := decide_eq_true t1
    go_wp2_with fail
    go_ret
    exact ⟨rfl, HB.out⟩
  have q1 : decide (63 < po) = false := decide_eq_false t1
  have hpo0 : 0 ≤ po ∧ po ≤ 63 := by omega
  clear t0 t1
  go_wp2_with fail
  refine (rRight8 g false 0 none 0 0 [] w4 rfl (Hs.nil _ _) (by omega)).mono ?_
  rintro e w5 ⟨rfl, hb⟩
  replace V := Lib.hid (V.out.below hb V.out.lt)
  replace VG := Lib.hid (VG.out.below hb VG.out.lt)
  replace HPL := Lib.hid (HPL.out.below hb)
  replace HB := Lib.hid (HB.out.trans (hb.mono HB.out.size))
  clear hb c0 c1 c2 c3 q0 q1
  obtain ⟨c0, c1, c2, c3, -⟩ := V.out.cells
  obtain ⟨rg, hrg⟩ : ∃ f, decide (okM g false 0 []) = f := ⟨_, rfl⟩
  rw [hrg]
  have HRG := Lib.hid hrg
  clear hrg
  cases rg
  · go_wp2_with fail
    go_ret
    exact ⟨rfl, HB.out⟩
  have HASK : Hid (vAskd g = true) := Lib.hid (of_decide_eq_true HRG.out).1
  go_wp2_with fail
  clear c0 c1 c2 c3
  go_loopw [9, 10] (fun v9 v10 wr => ∃ i : Nat, v9 = .bool (th9 l po g i) ∧ v10 = .int .i64 (i : Int) ∧ i ≤ n ∧ wr = w5) (fun _ v _ => n - (intOf v).toNat)
  case atStart => exact ⟨0, by simp [th9], rfl, by omega, rfl⟩
  case round =>
    obtain ⟨i, rfl, rfl, hi, hw⟩ := hrel
    replace hw := hw.symm
    subst hw
    obtain ⟨c0, c1, c2, c3, -⟩ := V.out.cells
    obtain ⟨t, ht⟩ : ∃ t, th9 l po g i = t := ⟨_, rfl⟩
    rw [ht]
    have HT := Lib.hid ht
    clear ht
    by_cases hlt : i < n
    · obtain ⟨b, off, rfl, hc⟩ := HPL.out.at (k := i) (by rw [HX.out]; exact hlt)
      obtain ⟨p, hp⟩ : ∃ p, l[i]? = some p := ⟨_, List.getElem?_eq_getElem (by rw [HX.out]; exact hlt)⟩
      obtain ⟨⟨d0, -, -, d3, -, -, -⟩, -⟩ := hc i p hp
      have HST := Lib.hid (th_step (po := po) (g := g) hp)
      obtain ⟨po1, hpo1⟩ : ∃ y, p.port = y := ⟨_, rfl⟩
      obtain ⟨g1, hg1⟩ : ∃ y, p.g = y := ⟨_, rfl⟩
      rw [hpo1] at d0
      rw [hg1] at d3
      rw [hpo1, hg1, HT.out] at HST
      have hiz0 : (0 : Int) ≤ (i : Int) := by omega
      have hiz : (i : Int) < (n : Int) := by omega
      clear hc hp hpo1 hg1
      cases t
      · by_cases e1 : po1 = po
        · have e1' : (po1 == po) = true := by simpa using e1
          by_cases e2 : g1 = g
          · have e2' : (g1 == g) = true := by simpa using e2
            have HV : Hid (th9 l po g (i + 1) = true) := Lib.hid (by rw [HST.out]; simp [e1, e2])
            clear e1 e2
            go_wp2_with fail
            go_roundw
            case rel => exact ⟨i + 1, by rw [HV.out], by go_num, by omega, by first | rfl | trivial⟩
            case measure => simp [intOf]; omega
          · have e2' : (g1 == g) = false := by simpa using e2
            have HV : Hid (th9 l po g (i + 1) = false) := Lib.hid (by rw [HST.out]; simp [e2])
            clear e1 e2
            go_wp2_with fail
            go_roundw
            case rel => exact ⟨i + 1, by rw [HV.out], by go_num, by omega, by first | rfl | trivial⟩
            case measure => simp [intOf]; omega
        · have e1' : (po1 == po) = false := by simpa using e1
          have HV : Hid (th9 l po g (i + 1) = false) := Lib.hid (by rw [HST.out]; simp [e1])
          clear e1
          go_wp2_with fail
          go_roundw
          case rel => exact ⟨i + 1, by rw [HV.out], by go_num, by omega, by first | rfl | trivial⟩
          case measure => simp [intOf]; omega
      · have HV : Hid (th9 l po g (i + 1) = true) := Lib.hid (by rw [HST.out]; simp)
        go_wp2_with fail
        go_roundw
        case rel => exact ⟨i + 1, by rw [HV.out], by go_num, by omega, by first | rfl | trivial⟩
        case measure => simp [intOf]; omega
    · obtain rfl : i = n := by omega
      obtain ⟨m0, m1, m2, m3, m4, m5, m6, m7, m8, -⟩ := VG.out.cells
      have HTA := Lib.hid (th_at (po := po) HOK.out.2.2.2.1 (fun p hp => (HPL.out.mem hp).2.2.1) HGG.out)
      have HRM := Lib.hid (room9 (po := po) (g := g) HOK.out)
      have hnn : ¬ (i : Int) < (i : Int) := by omega
      go_wp2_with fail
      clear m0 m1 m2 m3 m4 m5 m6 m7 m8 c0 c1 c2 c3
      refine (dHear9 kp la lim a i c l po 22 0 0 g false 0 0 none 0 0 none 0 0 [] w5 HX.out (okD_nm.2 HOK.out) HPL.out hpo HGG.out rfl (.inl rfl) (fun r hr => by
        have : recsP 22 g [] = [(2, g, [])] := rfl
        rw [this] at hr
        obtain rfl : r = _ := by simpa using hr
        exact ⟨HASK.out, by simp⟩) (by
        have : recsP 22 g [] = [(2, g, [])] := rfl
        rw [this]; simp)).mono ?_
      rintro e w6 hpost
      rw [if_pos (by omega), show recsP 22 g [] = [(2, g, [])] from rfl] at hpost
      have hfe : (fold9 kp la lim po (l.map Plc.nm) [(2, g, [])]) = fold9 kp la lim po (l.map Plc.nm) [(2, g, [])] := rfl
      have hfo := fold9_ok (okD_nm.2 HOK.out) hpo0 [(2, g, [])] (fun r hr => by obtain rfl : r = _ := by simpa using hr
                                                                                exact HASK.out)
      have hrm := room9 (po := po) (g := g) (okD_nm.2 HOK.out)
      simp only [at9_nm, List.length_map] at hrm
      generalize fold9 kp la lim po (l.map Plc.nm) [(2, g, [])] = f at hpost hfo hrm
      obtain ⟨⟨a2, c2, lx, aq, cq, rs, rfl, hlx, -, -, -, -, -⟩, hb⟩ := hpost
      obtain ⟨n2, hn2⟩ : ∃ k, lx.length = k := ⟨_, rfl⟩
      have hn2f : f.1.length = n2 := by
        have h1 := congrArg List.length hlx
        unfold agL at h1
        rw [List.length_map, List.length_map, hn2] at h1
        exact h1.symm
      have hlimn : (n2 : Int) ≤ lim := by have := hfo.1.2.2.1; rw [hn2f] at this; exact this
      rw [hn2]
      have HXL := HX.out
      rw [hn2f, HXL] at hrm
      obtain ⟨K, hK⟩ : ∃ K, f.2.2 = K := ⟨_, rfl⟩
      rw [hK] at hrm ⊢
      replace V := Lib.hid (V.out.below hb V.out.lt)
      replace HB := Lib.hid (HB.out.trans (hb.mono HB.out.size))
      have hbx := bel1 w6 (.cells #[.int .i64 kp, .int .i64 la, .int .i64 lim, .slice a2 n2 c2] 46)
      have VX := Lib.hid (DV.new w6 kp la lim a2 n2 c2)
      have hvb6 : w.heap.size < w6.heap.size := V.out.lt
      replace V := Lib.hid (V.out.below hbx V.out.lt)
      have HB7 := Lib.hid (HB.out.trans (hbx.mono HB.out.size))
      have hcase : (t = true ∧ n2 = i ∧ K = 0) ∨ (t = false ∧ lim ≤ (i : Int) ∧ n2 = i ∧ K = 1) ∨ (t = false ∧ ¬ lim ≤ (i : Int) ∧ n2 = i + 1 ∧ K = 0) := by
        have ht := HT.out
        have hta := HTA.out
        rw [HXL] at hta
        cases t
        · have ha := hta.2 ht
          have h2 := hrm.2 (by rw [ha]; rfl)
          by_cases hl : lim ≤ (i : Int)
          · exact .inr (.inl ⟨rfl, hl, (h2.1 hl).1, (h2.1 hl).2⟩)
          · exact .inr (.inr ⟨rfl, hl, (h2.2 hl).1, (h2.2 hl).2⟩)
        · obtain ⟨p, ha⟩ := hta.1 ht
          have h2 := hrm.1 ⟨p.nm, by rw [ha]; rfl⟩
          exact .inl ⟨rfl, h2.1, h2.2⟩
      have HCASE := Lib.hid hcase
      have HLIM := Lib.hid hlimn
      clear hcase hrm hfo hn2f hn2 hlx hK hfe hlimn HTA HRM hb hbx HXL
      obtain ⟨c0, c1, c2, c3, -⟩ := V.out.cells
      obtain ⟨x0, x1, x2, x3, -⟩ := VX.out.cells
      rcases HCASE.out with ⟨rfl, rfl, rfl⟩ | ⟨rfl, hl2, rfl, rfl⟩ | ⟨rfl, hl2, rfl, rfl⟩
      · have e0 : decide (lim < (n2 : Int)) = false := decide_eq_false (by have := HLIM.out; omega)
        go_wp2_with fail
        go_ret
        exact ⟨rfl, HB7.out⟩
      · have e0 : decide (lim < (n2 : Int)) = false := decide_eq_false (by have := HLIM.out; omega)
        have e1 : decide (lim ≤ (n2 : Int)) = true := decide_eq_true hl2
        go_wp2_with fail
        go_ret
        exact ⟨rfl, HB7.out⟩
      · have e0 : decide (lim < ((i + 1 : Nat) : Int)) = false := decide_eq_false (by have := HLIM.out; omega)
        have e1 : decide (lim ≤ (i : Int)) = false := decide_eq_false hl2
        go_wp2_with fail
        go_ret
        exact ⟨rfl, HB7.out⟩

set_option maxRecDepth 100000 in
theorem contract (H : Type) (enc : TypeId × Value → H) (W : World) (base : Nat) (args : Array Value) (ds gs : List (DataW H)) (before : List MemPlace)
    (hval : ∀ (j : Nat) t v, Tryz.f9.params[j]? = some t → args[j]? = some v → Value.okWide Tryz.prog W .any base t v)
    (hW : DataW.Whole enc Tryz.prog Tryz.f9.params.toList Rows.dbRoomSpec.vars false W args.toList ds gs before) (hsz : (DataW.weightsEach Tryz.prog (Tryz.f9.params.toList ++ Rows.dbRoomSpec.plain.varTypes Tryz.prog) (ds ++ gs)).all (· ≤ reachBytes) = true) :
    Calls Tryz.prog 9 args W fun e W' => ∃ v, e = .returned v ∧ Rows.dbRoomSpec.post enc Tryz.prog Tryz.f9 false true false false W args v W' := by
  have hW' := hW
  obtain ⟨p, q, hA0, hV, rfl, hfz, hnd⟩ := hW
  have hA : DataW.TrodAll enc Tryz.prog W 0 (fun _ => true) true Tryz.f9.params.toList args.toList ds p := hA0
  rw [Tryz.params9] at hA hval
  obtain ⟨v0, vs0, d0, ds0, p0, q0, hargs, rfl, rfl, h0, r0⟩ := trodAll_cons hA
  obtain ⟨v1, vs1, d1, ds1, p1, q1, rfl, rfl, rfl, h1, r1⟩ := trodAll_cons r0
  obtain ⟨v2, vs2, d2, ds2, p2, q2, rfl, rfl, rfl, h2, r2⟩ := trodAll_cons r1
  obtain ⟨rfl, rfl, rfl⟩ := trodAll_nil r2
  obtain rfl : args = #[v0, v1, v2] := by cases args; simp_all
  obtain ⟨rfl, rfl⟩ := trodVars_none hV
  have k0 := h0
  have lt0 : ∀ x ∈ p0, x.block < W.heap.size := by obtain ⟨m, hm⟩ := k0; exact DataW.trod_lt m _ _ _ hm
  have k1 := h1
  have lt1 : ∀ x ∈ p1, x.block < W.heap.size := by obtain ⟨m, hm⟩ := k1; exact DataW.trod_lt m _ _ _ hm
  have k2 := h2
  have lt2 : ∀ x ∈ p2, x.block < W.heap.size := by obtain ⟨m, hm⟩ := k2; exact DataW.trod_lt m _ _ _ hm
  obtain ⟨kq0, l0, m0, a0, c0, s0, rfl, q10⟩ := open_db (hval 0 46 v0 rfl rfl) h0 (fun x hx => by simpa using List.all_eq_true.1 hsz _ (DataW.weights_mem_each (j := 0) rfl rfl x hx))
  obtain ⟨a1, rfl, rfl, rfl, w1⟩ := open_int Tryz.underlying3 (hval 1 3 v1 rfl rfl) h1
  obtain ⟨a2, rfl, rfl, rfl, w2⟩ := open_int Tryz.underlying25 (hval 2 25 v2 rfl rfl) h2
  clear hA0
  refine (walk W kq0 l0 m0 a0 c0 s0 q10 a1 (bounds_i64 w1) a2 (bounds_u32 w2)).mono fun e W' ⟨he, bel⟩ => ?_
  subst he
  exact ⟨_, rfl, _, _, _, [], _, [], hW', trodAll_mk1 (shut_bool Tryz.underlying4 _), (trodAll_cons_mk (Below.trod laidOut (by kernel_rfl) (of_decide_eq_true (by kernel_rfl)) k0 bel lt0) (trodAll_cons_mk (Below.trod laidOut (by kernel_rfl) (of_decide_eq_true (by kernel_rfl)) k1 bel lt1) (trodAll_cons_mk (Below.trod laidOut (by kernel_rfl) (of_decide_eq_true (by kernel_rfl)) k2 bel lt2) trodAll_mk0))), rfl, bel.frame _, fun h => by cases h⟩

set_option maxRecDepth 100000 in
theorem lifted (os : Os) (started : os.Started) (H : Type) (enc : TypeId × Value → H) :
    ReturnsInHanded {} Tryz.checked os 9 .any (Rows.dbRoomSpec.pre6 enc Tryz.prog Tryz.f9 Rows.dbRoomRow.domain false) (Rows.dbRoomSpec.post enc Tryz.prog Tryz.f9 false true false false) := by
  refine returnsInHanded_of_change_sized (C := Tryz.checked) own started (by kernel_rfl) Tryz.func9
    (ChangeSpec.witness6 (enc := enc) (C := Tryz.checked) false ⟨#[], #[(.agg #[.int .i64 0, .int .i64 0, .int .i64 0, .slice none 0 0]), (.int .i64 0), (.int .u32 0)], []⟩ 8 (by kernel_rfl) (by kernel_rfl) (by kernel_rfl) (by kernel_rfl)) ?_
  intro W base args ds gs before hval hW hcnd hsz _
  exact contract H enc W base args ds gs before hval hW hsz
theorem said : Rows.DbRoomSaid :=
  OpenClaim.holds_of_wide 9 Tryz.f9 rfl rfl rfl rfl rfl rfl rfl ⟨rfl, rfl, rfl, rfl, rfl⟩ rfl rfl rfl rfl rfl (by kernel_rfl) Tryz.func9 (by kernel_rfl)
    (of_decide_eq_true (by kernel_rfl)) (by unfold Func.isWrapper; first | (rw [if_pos (by decide +kernel)]; kernel_rfl) | (rw [if_neg (by decide +kernel)]; exact ⟨rfl, rfl⟩))
    (fun os started H enc _ => lifted os started H enc)
#print axioms said
end Go.Proofs.YtiabbkjmgaemaaaGreat.dbRoom
