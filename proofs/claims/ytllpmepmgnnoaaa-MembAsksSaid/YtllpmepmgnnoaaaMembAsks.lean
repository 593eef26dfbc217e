/- The law MembAsks: every call returns true, and its arguments read behind the call as before it. Condition: none but the row's own. -/
import Derived.Test.YtllpmepmgnnoaaaY14
import Derived.BigQuiet
namespace Go.Proofs.Ytllpmepmgnnoaaa.membAsks
set_option linter.unusedVariables false
open Go.ChangeShapes Go.WideShapes Go.ChangeAt Go.RowKit
open Go.ChangeMaps (open_string shut_string)

theorem wrap_j {j nA : Nat} (h : j < nA) (hb : nA ≤ 64) : wrap64 ((j : Int) + 1) = (j : Int) + 1 := by
  unfold wrap64; omega
theorem wrap_jv {j nA : Nat} (h : j < nA) (hb : nA ≤ 64) : Value.int .i64 (wrap64 ((j : Int) + 1)) = .int .i64 ((j + 1 : Nat) : Int) := by
  rw [wrap_j h hb]; rfl
theorem wrap_jm {j nA : Nat} (h : j < nA) (hb : nA ≤ 64) : nA - (intOf (.int .i64 (wrap64 ((j : Int) + 1)))).toNat < nA - (intOf (.int .i64 (j : Int))).toNat := by
  rw [wrap_j h hb]
  show nA - ((j : Int) + 1).toNat < nA - ((j : Int)).toNat
  omega
theorem nn_askS {s : List Hd} {B : List Int} {la : Int} (hi : Inc (ad s)) (hB : Inc B) (hn : NN s) (hl : 0 ≤ la) : NN (askS s la B) := by
  unfold askS
  split
  · exact hn
  · exact keepS_nn hl hi (int_inc hB (ad_filter_inc _ hi)) hn
theorem ask_src {s : List Hd} {B : List Int} {la : Int} (hi : Inc (ad s)) (hB : Inc B) (hn : NN s) (hl : 0 ≤ la) (hw : ∀ a ∈ B, 0 < lf s a) : ∀ a ∈ B, ∃ y ∈ askS s la B, y.1 = a ∧ y.2 ≤ la := by
  intro a ha
  have h1 := lf_askS hi hB hn hl a
  have h2 := hw a ha
  have h3 : 0 ≤ lf (askS s la B) a ∧ lf (askS s la B) a ≤ la := by
    rw [h1]
    split
    · omega
    · rename_i h; have : ¬ la < lf s a := fun k => h ⟨ha, k⟩; omega
  exact ⟨_, lf_in ((lf_ge (nn_askS hi hB hn hl)).1 h3.1), rfl, h3.2⟩
def AskOk (g la kind : Int) (r : Hr) : Prop := r.q.length ≤ 2 ∧ (r.er ≠ 0 → r.q = []) ∧ (kind ≤ 2 → r.q = []) ∧ (kind = 5 → r.q = []) ∧ ∀ p ∈ r.q, p.1 = g ∧ Inc p.2 ∧ ∀ a ∈ p.2, ∃ y ∈ r.s, y.1 = a ∧ y.2 ≤ la
theorem ask_none {g la kind : Int} {r : Hr} (h : r.q = []) : AskOk g la kind r := ⟨by rw [h]; decide, fun _ => h, fun _ => h, fun _ => h, by rw [h]; intro p hp; simp at hp⟩
theorem ask_cap {g la kind : Int} {ex : Bool} {left : Int} {s : List Hd} {r : Hr} (h : AskOk g la kind r) : AskOk g la kind (capH ex left s r) := by
  unfold capH
  split
  · exact h
  · exact ask_none rfl
theorem askQ_src {g la : Int} {s : List Hd} {B : List Int} (hi : Inc (ad s)) (hB : Inc B) (hn : NN s) (hl : 0 ≤ la) (hw : ∀ a ∈ B, 0 < lf s a) : ∀ p ∈ askQ g B, p.1 = g ∧ Inc p.2 ∧ ∀ a ∈ p.2, ∃ y ∈ askS s la B, y.1 = a ∧ y.2 ≤ la := by
  intro p hp
  unfold askQ at hp
  split at hp
  · simp at hp
  · obtain rfl : p = (g, B) := by simpa using hp
    exact ⟨rfl, hB, ask_src hi hB hn hl hw⟩
theorem hear_asks {g kp la : Int} {ex : Bool} {left : Int} {s : List Hd} (kind : Int) (xs : List Int) (ht : mayP kp la) (h : okM g ex left s) : AskOk g la kind (hearP g kp la ex left s kind xs) := by
  have hB := mk_inc xs
  have hla : 0 ≤ la := by have := ht.1; omega
  unfold hearP
  split
  · exact ask_cap (ask_none rfl)
  rename_i n1
  split
  · exact ask_cap (ask_none rfl)
  rename_i n2
  split
  · rename_i n3
    refine ask_cap ⟨?_, fun k => absurd rfl k, fun k => by omega, fun k => by omega, ?_⟩
    · show (askQ _ _ ++ _).length ≤ 2
      rw [List.length_append]
      have := askQ_len g (dif (wantS (keepS s (mk xs) kp)) (mk xs))
      split <;> simp <;> omega
    · intro p hp
      have i1 := keepS_inc (s := s) kp h.inc hB
      have k1 := keep_nn (xs := xs) ht h
      rcases List.mem_append.1 hp with hp | hp
      · exact askQ_src i1 (dif_inc (wantS_inc i1) hB) k1 hla (fun a ha => (wantS_mem i1 k1 a).1 ((dif_mem (wantS_inc i1) hB a).1 ha).1) p hp
      · split at hp
        · obtain rfl : p = (g, []) := by simpa using hp
          exact ⟨rfl, inc_nil, fun a ha => by simp at ha⟩
        · simp at hp
  rename_i n3
  split
  · have i1 := exS_inc left h.inc hB
    have k1 : NN (exS s (mk xs) left) := keepS_nn (by have := h.left; omega) (ad_filter_inc _ h.inc) (dif_inc hB h.inc) (nn_filter _ h.nn)
    refine ask_cap ⟨?_, fun k => absurd rfl k, fun k => by omega, fun k => by omega, askQ_src i1 (wantS_inc i1) k1 hla (fun a ha => (wantS_mem i1 k1 a).1 ha)⟩
    exact Nat.le_trans (askQ_len _ _) (by omega)
  rename_i n4
  split
  · have i1 := blS_inc h hB
    have k1 := blS_nn h hB
    refine ask_cap ⟨?_, fun k => absurd rfl k, fun k => by omega, fun k => by omega, askQ_src i1 (int_inc hB (wantS_inc i1)) k1 hla (fun a ha => (wantS_mem i1 k1 a).1 ((int_mem hB (wantS_inc i1) a).1 ha).2)⟩
    exact Nat.le_trans (askQ_len _ _) (by omega)
  · exact ask_none rfl
def QAt (w : World) (b o : Nat) (r : Qr) : Prop := w.cell? ⟨b, o, none⟩ = some (.int .u32 r.g) ∧ w.cell? ⟨b, o + 1, none⟩ = some r.sl
theorem QAt.below {w w' : World} {b o : Nat} {r : Qr} (h : QAt w b o r) (hb : Below w.heap.size w w') : QAt w' b o r := ⟨(hb.cell (cell_lt h.1)).trans h.1, (hb.cell (cell_lt h.2)).trans h.2⟩
theorem qv_at (rs : List Qr) : ∀ (k : Nat) (r : Qr), rs[k]? = some r → (qv rs)[k * 2]? = some (.int .u32 r.g) ∧ (qv rs)[k * 2 + 1]? = some r.sl := by
  induction rs with
  | nil => intro k s h; simp at h
  | cons t rr ih =>
    intro k r h
    have e : qv (t :: rr) = .int .u32 t.g :: t.sl :: qv rr := by simp [qv]
    rw [e]
    cases k with
    | zero => simp at h; subst h; exact ⟨rfl, rfl⟩
    | succ k =>
      have h' : rr[k]? = some r := by simpa using h
      obtain ⟨h1, h2⟩ := ih k r h'
      exact ⟨by rw [show (k + 1) * 2 = k * 2 + 1 + 1 by omega]; simpa using h1, by rw [show (k + 1) * 2 + 1 = k * 2 + 1 + 1 + 1 by omega]; simpa using h2⟩
theorem Qs_at {w : World} {B : Nat} {a : Option Addr} {c : Nat} {rs : List Qr} (h : Qs w B a c rs) {k : Nat} (hk : k < rs.length) : ∃ b, a = some ⟨b, 0, none⟩ ∧ ∀ (i : Nat) r, rs[i]? = some r → QAt w b (0 + i * 2) r := by
  obtain ⟨b, e, _, _, hc⟩ := kown_at h.1 (by omega)
  refine ⟨b, e, fun i r hr => ?_⟩
  obtain ⟨h1, h2⟩ := qv_at rs i r hr
  rw [Nat.zero_add]
  exact ⟨hc _ _ h1, hc _ _ h2⟩
def asV (N qb nq cq ix : Nat) (g : Int) (qa : Option Addr) (qn qc : Nat) : Nat → Value → List Value → World → Prop
  | 0, v, _, _ => v = .slice (some ⟨qb, 0, none⟩) nq cq
  | 1, v, _, _ => v = .int .i64 (ix : Int)
  | 2, v, _, _ => v = .pointer (some ⟨qb, ix * 2, none⟩)
  | 3, v, _, _ => v = .pointer (some ⟨qb, ix * 2, none⟩)
  | 4, v, _, _ => v = .int .u32 g
  | 5, v, _, _ => v = .pointer (some ⟨N + 2, 0, none⟩)
  | 6, v, _, _ => v = .int .u32 g
  | 7, v, _, _ => v = .bool false
  | 8, v, _, _ => v = .bool false
  | 9, v, _, _ => v = .slice (some ⟨qb, 0, none⟩) nq cq
  | 10, v, _, _ => v = .int .i64 (ix : Int)
  | 11, v, _, _ => v = .pointer (some ⟨qb, ix * 2, none⟩)
  | 12, v, _, _ => v = .pointer (some ⟨qb, ix * 2 + 1, none⟩)
  | 13, v, _, _ => v = .slice qa qn qc
  | 14, v, _, _ => v = .bool true
  | 15, v, _, _ => v = .bool false
  | 16, v, _, _ => v = .bool false
  | _, _, _, _ => True
def asD : Nat → List Nat
  | 2 => [0, 1]
  | 3 => [2]
  | 4 => [3]
  | 6 => [5]
  | 7 => [4, 6]
  | 8 => [7]
  | 9 => [8]
  | 10 => [8]
  | 11 => [9, 10, 8]
  | 12 => [11, 8]
  | 13 => [12, 8]
  | 14 => [13, 8]
  | 15 => [14, 8]
  | 16 => [8, 15]
  | _ => []
theorem as_st (N qb nq cq ix : Nat) (g : Int) (qa : Option Addr) (qn qc : Nat) {i : Nat} {v : Value} {us : List Value} {w w' : World}  (hr : Below w.heap.size w w') (hv : asV N qb nq cq ix g qa qn qc i v us w) : asV N qb nq cq ix g qa qn qc i v us w' := by
  unfold asV at hv ⊢
  split at hv
  all_goals first
    | exact hv
set_option linter.unusedSimpArgs false in
set_option maxRecDepth 100000 in
set_option maxHeartbeats 16000000 in
theorem walk (w : World) (kp la g : Int) (ex : Bool) (left : Int) (a : Option Addr) (c : Nat) (s : List Hd) (kind : Int) (b : Option Addr) (cb : Nat) (xs : List Int) (hs : Hs w a s) (hn : List.length s ≤ 1125899906842624) (hnil : a = none → c = 0) (hg : 0 ≤ g ∧ g ≤ 4294967295) (ha : As w b xs) (hna : List.length xs ≤ 1125899906842624) (hnila : b = none → cb = 0) :
    Calls Try.prog 8 #[.agg #[.int .i64 kp, .int .i64 la, .int .u32 g, .bool ex, .int .i64 left, .slice a (List.length s) c, .int .u8 kind, .slice b (List.length xs) cb]] w fun e w' => e = .returned (.bool true) ∧ Below w.heap.size w w' := by
  obtain ⟨n, hn1⟩ : ∃ n, s.length = n := ⟨_, rfl⟩
  obtain ⟨ln, hln⟩ : ∃ ln, xs.length = ln := ⟨_, rfl⟩
  rw [hn1] at hn ⊢
  rw [hln] at hna ⊢
  have HX := Lib.hid hn1
  have HL := Lib.hid hln
  have HNIL := Lib.hid hnil
  have HNILA := Lib.hid hnila
  have HG := Lib.hid hg
  obtain ⟨w1, hw1⟩ : ∃ w1, w1 = ((w.alloc (.cells #[.int .i64 kp, .int .i64 la, .int .u32 g, .bool ex, .int .i64 left, .slice a n c, .int .u8 kind, .slice b ln cb] 72)).alloc (.cells #[.int .i64 kp, .int .i64 la] 45)).alloc (.cells #[.int .u32 g, .bool ex, .int .i64 left, .slice a n c] 48) := ⟨_, rfl⟩
  obtain ⟨tc, mv, hb⟩ := mkLaw w _ _ kp la g ex left a n c w1 hw1
  have BB := Lib.hid hb
  have TT := Lib.hid tc
  have VM := Lib.hid mv
  have SM := Lib.hid (hs.below hb)
  have SL := Lib.hid (ha.below hb)
  clear hn1 hln hnil hnila hg tc mv hb hs ha
  go_enter Try.func8, Try.ntmps8
  go_wp2_with fail
  rw [← hw1]
  clear hw1
  refine (mShown w1).mono ?_
  rintro e w101 ⟨rfl, hb⟩
  have BB := Lib.hid (BB.out.trans (hb.mono BB.out.size))
  have SM := Lib.hid (SM.out.below hb)
  have SL := Lib.hid (SL.out.below hb)
  have TT := Lib.hid (TT.out.below hb)
  have VM := Lib.hid (VM.out.below hb VM.out.lt)
  clear hb
  obtain ⟨TT0, TT1⟩ := TT.out
  obtain ⟨VM0, VM1, VM2, VM3, -⟩ := VM.out.cells
  go_wp2_with fail
  refine (rMay8 kp la _).mono ?_
  rintro e w102 ⟨rfl, hb⟩
  clear TT0 TT1 VM0 VM1 VM2 VM3
  have BB := Lib.hid (BB.out.trans (hb.mono BB.out.size))
  have SM := Lib.hid (SM.out.below hb)
  have SL := Lib.hid (SL.out.below hb)
  have TT := Lib.hid (TT.out.below hb)
  have VM := Lib.hid (VM.out.below hb VM.out.lt)
  clear hb
  by_cases q1 : mayP kp la
  · rw [decide_eq_true q1]
    have MAY := Lib.hid q1
    clear q1
    obtain ⟨TT0, TT1⟩ := TT.out
    obtain ⟨VM0, VM1, VM2, VM3, -⟩ := VM.out.cells
    go_wp2_with fail
    refine (rRight8 g ex left a n c s _ HX.out SM.out (by omega)).mono ?_
    rintro e w103 ⟨rfl, hb⟩
    clear TT0 TT1 VM0 VM1 VM2 VM3
    have BB := Lib.hid (BB.out.trans (hb.mono BB.out.size))
    have SM := Lib.hid (SM.out.below hb)
    have SL := Lib.hid (SL.out.below hb)
    have TT := Lib.hid (TT.out.below hb)
    have VM := Lib.hid (VM.out.below hb VM.out.lt)
    clear hb
    by_cases q2 : okM g ex left s
    · rw [decide_eq_true q2]
      have OK := Lib.hid q2
      have TB := Lib.hid (may_T MAY.out q2 HG.out)
      have hn64 : n ≤ 64 := by have := q2.2.1; rw [HX.out] at this; exact this
      clear q2
      by_cases q3 : ln ≤ 200
      · have q3' : decide ((200 : Int) < (ln : Int)) = false := decide_eq_false (by omega)
        obtain ⟨TT0, TT1⟩ := TT.out
        obtain ⟨VM0, VM1, VM2, VM3, -⟩ := VM.out.cells
        go_wp2_with fail
        refine (mHear kind kp la g ex left a n c s b ln cb xs _ HX.out hn64 SM.out HNIL.out OK.out.inc HL.out q3 SL.out HNILA.out TB.out).mono ?_
        rintro e w104 ⟨⟨aA, cA, aaA, ccA, rsA, rfl, hA, mA, qA⟩, hb⟩
        clear TT0 TT1 VM0 VM1 VM2 VM3
        have BB := Lib.hid (BB.out.trans (hb.mono BB.out.size))
        have SM := Lib.hid (SM.out.below hb)
        have SL := Lib.hid (SL.out.below hb)
        have TT := Lib.hid (TT.out.below hb)
        have VM := Lib.hid (VM.out.below hb VM.out.lt)
        clear hb
        have HRA := Lib.hid (hear_ok kind xs MAY.out OK.out)
        have SSA := Lib.hid hA.1
        have MMA := Lib.hid mA
        have QQA := Lib.hid qA
        clear hA mA qA
        have FA : Hid (AskOk g la kind (hearP g kp la ex left s kind xs)) := Lib.hid (hear_asks kind xs MAY.out OK.out)
        obtain ⟨rA, hrA⟩ : ∃ r, hearP g kp la ex left s kind xs = r := ⟨_, rfl⟩
        rw [hrA] at HRA SSA MMA FA ⊢
        clear hrA
        obtain ⟨xA, lA, sA, qqA, eA⟩ := rA
        simp only at HRA SSA MMA FA ⊢
        obtain ⟨nA, hnnA⟩ : ∃ nn, sA.length = nn := ⟨_, rfl⟩
        have NNA := Lib.hid hnnA
        rw [hnnA]
        clear hnnA
        obtain ⟨nqA, hnqA⟩ : ∃ nn, List.length rsA = nn := ⟨_, rfl⟩
        have NQA := Lib.hid hnqA
        rw [hnqA]
        clear hnqA
        have hbn := bel1 w104 (.cells #[.int .u32 g, .bool xA, .int .i64 lA, .slice aA nA cA] 48)
        have VAn := MV.new w104 g xA lA aA nA cA
        have BB := Lib.hid (BB.out.trans (hbn.mono BB.out.size))
        have SM := Lib.hid (SM.out.below hbn)
        have SL := Lib.hid (SL.out.below hbn)
        have SSA := Lib.hid (SSA.out.below hbn)
        have QQA := Lib.hid (QQA.out.below hbn)
        have TT := Lib.hid (TT.out.below hbn)
        have VM := Lib.hid (VM.out.below hbn VM.out.lt)
        clear hbn
        have VA := Lib.hid VAn
        clear VAn
        have FQ : Hid (rsA.map Qr.nm = qqA ∧ AskOk g la kind ⟨xA, lA, sA, qqA, eA⟩) := Lib.hid ⟨MMA.out, FA.out⟩
        have hq2 : nqA ≤ 2 := by have h1 := congrArg List.length MMA.out; have h2 := FA.out.1; rw [List.length_map, NQA.out] at h1; simp only at h2; omega
        have hq2' : decide ((2 : Int) < (nqA : Int)) = false := decide_eq_false (by omega)
        have HZ : Hid (qqA = [] → nqA = 0) := Lib.hid (fun e => by have h1 := congrArg List.length MMA.out; rw [List.length_map, NQA.out, e] at h1; exact h1)
        have HZ1 : Hid (eA ≠ 0 → nqA = 0) := Lib.hid (fun e => HZ.out (FA.out.2.1 e))
        have HZ2 : Hid (kind ≤ 2 → nqA = 0) := Lib.hid (fun e => HZ.out (FA.out.2.2.1 e))
        have HZ5 : Hid (kind = 5 → nqA = 0) := Lib.hid (fun e => HZ.out (FA.out.2.2.2.1 e))
        clear FA MMA HZ
        by_cases zN : nqA = 0
        · subst zN
          clear HZ1 HZ2 HZ5
          by_cases zE : eA = 0
          · have zE' : (eA != 0) = false := by simpa using zE
            clear zE
            by_cases zK : kind ≤ 2
            · have zK5' : (kind == 5) = false := by simp; omega
              obtain ⟨TT0, TT1⟩ := TT.out
              obtain ⟨VM0, VM1, VM2, VM3, -⟩ := VM.out.cells
              obtain ⟨VA0, VA1, VA2, VA3, -⟩ := VA.out.cells
              go_wp2_with fail
              generalize w104.alloc (.cells #[.int .u32 g, .bool xA, .int .i64 lA, .slice aA nA cA] 48) = w105 at *
              clear TT0 TT1 VM0 VM1 VM2 VM3 VA0 VA1 VA2 VA3
              go_loopw [11] (fun v11 wr => v11 = .int .i64 0 ∧ wr = w105) (fun _ _ => 0)
              case atStart => exact ⟨rfl, rfl⟩
              case round =>
                obtain ⟨rfl, rfl⟩ := hrel
                go_wp2_with fail
                go_ret
                exact ⟨rfl, BB.out⟩
            · have zK' : decide (kind ≤ 2) = false := decide_eq_false zK
              clear zK
              by_cases zK5 : kind = 5
              · subst zK5
                obtain ⟨TT0, TT1⟩ := TT.out
                obtain ⟨VM0, VM1, VM2, VM3, -⟩ := VM.out.cells
                obtain ⟨VA0, VA1, VA2, VA3, -⟩ := VA.out.cells
                go_wp2_with fail
                generalize w104.alloc (.cells #[.int .u32 g, .bool xA, .int .i64 lA, .slice aA nA cA] 48) = w105 at *
                clear TT0 TT1 VM0 VM1 VM2 VM3 VA0 VA1 VA2 VA3
                go_loopw [11] (fun v11 wr => v11 = .int .i64 0 ∧ wr = w105) (fun _ _ => 0)
                case atStart => exact ⟨rfl, rfl⟩
                case round =>
                  obtain ⟨rfl, rfl⟩ := hrel
                  go_wp2_with fail
                  go_ret
                  exact ⟨rfl, BB.out⟩
              · have zK5' : (kind == 5) = false := by simpa using zK5
                clear zK5
                obtain ⟨TT0, TT1⟩ := TT.out
                obtain ⟨VM0, VM1, VM2, VM3, -⟩ := VM.out.cells
                obtain ⟨VA0, VA1, VA2, VA3, -⟩ := VA.out.cells
                go_wp2_with fail
                generalize w104.alloc (.cells #[.int .u32 g, .bool xA, .int .i64 lA, .slice aA nA cA] 48) = w105 at *
                clear TT0 TT1 VM0 VM1 VM2 VM3 VA0 VA1 VA2 VA3
                go_loopw [11] (fun v11 wr => v11 = .int .i64 0 ∧ wr = w105) (fun _ _ => 0)
                case atStart => exact ⟨rfl, rfl⟩
                case round =>
                  obtain ⟨rfl, rfl⟩ := hrel
                  go_wp2_with fail
                  go_ret
                  exact ⟨rfl, BB.out⟩
          · have zE' : (eA != 0) = true := by simpa using zE
            clear zE
            by_cases zK : kind ≤ 2
            · have zK5' : (kind == 5) = false := by simp; omega
              obtain ⟨TT0, TT1⟩ := TT.out
              obtain ⟨VM0, VM1, VM2, VM3, -⟩ := VM.out.cells
              obtain ⟨VA0, VA1, VA2, VA3, -⟩ := VA.out.cells
              go_wp2_with fail
              generalize w104.alloc (.cells #[.int .u32 g, .bool xA, .int .i64 lA, .slice aA nA cA] 48) = w105 at *
              clear TT0 TT1 VM0 VM1 VM2 VM3 VA0 VA1 VA2 VA3
              go_loopw [11] (fun v11 wr => v11 = .int .i64 0 ∧ wr = w105) (fun _ _ => 0)
              case atStart => exact ⟨rfl, rfl⟩
              case round =>
                obtain ⟨rfl, rfl⟩ := hrel
                go_wp2_with fail
                go_ret
                exact ⟨rfl, BB.out⟩
            · have zK' : decide (kind ≤ 2) = false := decide_eq_false zK
              clear zK
              by_cases zK5 : kind = 5
              · subst zK5
                obtain ⟨TT0, TT1⟩ := TT.out
                obtain ⟨VM0, VM1, VM2, VM3, -⟩ := VM.out.cells
                obtain ⟨VA0, VA1, VA2, VA3, -⟩ := VA.out.cells
                go_wp2_with fail
                generalize w104.alloc (.cells #[.int .u32 g, .bool xA, .int .i64 lA, .slice aA nA cA] 48) = w105 at *
                clear TT0 TT1 VM0 VM1 VM2 VM3 VA0 VA1 VA2 VA3
                go_loopw [11] (fun v11 wr => v11 = .int .i64 0 ∧ wr = w105) (fun _ _ => 0)
                case atStart => exact ⟨rfl, rfl⟩
                case round =>
                  obtain ⟨rfl, rfl⟩ := hrel
                  go_wp2_with fail
                  go_ret
                  exact ⟨rfl, BB.out⟩
              · have zK5' : (kind == 5) = false := by simpa using zK5
                clear zK5
                obtain ⟨TT0, TT1⟩ := TT.out
                obtain ⟨VM0, VM1, VM2, VM3, -⟩ := VM.out.cells
                obtain ⟨VA0, VA1, VA2, VA3, -⟩ := VA.out.cells
                go_wp2_with fail
                generalize w104.alloc (.cells #[.int .u32 g, .bool xA, .int .i64 lA, .slice aA nA cA] 48) = w105 at *
                clear TT0 TT1 VM0 VM1 VM2 VM3 VA0 VA1 VA2 VA3
                go_loopw [11] (fun v11 wr => v11 = .int .i64 0 ∧ wr = w105) (fun _ _ => 0)
                case atStart => exact ⟨rfl, rfl⟩
                case round =>
                  obtain ⟨rfl, rfl⟩ := hrel
                  go_wp2_with fail
                  go_ret
                  exact ⟨rfl, BB.out⟩
        · have zE : eA = 0 := Classical.byContradiction fun h => zN (HZ1.out h)
          have zK : ¬ kind ≤ 2 := fun h => zN (HZ2.out h)
          have zK5 : kind ≠ 5 := fun h => zN (HZ5.out h)
          have zE' : (eA != 0) = false := by simpa using zE
          have zK' : decide (kind ≤ 2) = false := decide_eq_false zK
          have zK5' : (kind == 5) = false := by simpa using zK5
          have HNZ := Lib.hid zN
          clear zE zK zK5 HZ1 HZ2 HZ5 zN hq2'
          obtain ⟨TT0, TT1⟩ := TT.out
          obtain ⟨VM0, VM1, VM2, VM3, -⟩ := VM.out.cells
          obtain ⟨VA0, VA1, VA2, VA3, -⟩ := VA.out.cells
          go_wp2_with fail
          generalize w104.alloc (.cells #[.int .u32 g, .bool xA, .int .i64 lA, .slice aA nA cA] 48) = w105 at *
          clear TT0 TT1 VM0 VM1 VM2 VM3 VA0 VA1 VA2 VA3
          have BB0 := BB
          have hsz := HNZ
          go_loopw [11] (fun v11 wr => ∃ i : Nat, v11 = .int .i64 (i : Int) ∧ i ≤ nqA ∧ Below w105.heap.size w105 wr) (fun v _ => nqA - (intOf v).toNat)
          case atStart => exact ⟨0, rfl, by omega, Below.refl _ _⟩
          case round =>
            obtain ⟨i, rfl, hi, hB⟩ := hrel
            have BR := Lib.hid hB
            clear hB hsz
            by_cases hlt : i < nqA
            · obtain ⟨q, hqk⟩ : ∃ q, rsA[i]? = some q := ⟨_, List.getElem?_eq_getElem (by rw [NQA.out]; exact hlt)⟩
              obtain ⟨qb, hqe, hqc⟩ := Qs_at QQA.out (k := i) (by rw [NQA.out]; exact hlt)
              subst hqe
              obtain ⟨q0, q1⟩ := (hqc i q hqk).below BR.out
              have hqok := (QQA.out.2 q (List.mem_of_getElem? hqk)).below BR.out
              have hqm : q.nm ∈ qqA := by rw [← FQ.out.1]; exact List.mem_map.2 ⟨q, List.mem_of_getElem? hqk, rfl⟩
              obtain ⟨qg, qs, qa, qc⟩ := q
              have hask := FQ.out.2.2.2.2.2 _ hqm
              simp only [Qr.nm] at hask
              obtain ⟨rfl, hqinc, hqsrc⟩ := hask
              have HQS := Lib.hid hqsrc
              have HQI := Lib.hid hqinc
              have AQ := Lib.hid (vown_as hqok.2.2 hqok.2.1)
              simp only [Qr.sl] at q0 q1
              have hql : qs.length ≤ 64 := by
                have h1 : ∀ a ∈ qs, a ∈ ad sA := fun a ha => by obtain ⟨y, hy, e, _⟩ := hqsrc a ha; rw [← e]; exact List.mem_map.2 ⟨y, hy, rfl⟩
                have e1 : int qs (ad sA) = qs := inc_ext (int_inc hqinc HRA.out.inc) hqinc fun z => by rw [int_mem hqinc HRA.out.inc]; exact ⟨fun k => k.1, fun k => ⟨k, h1 z k⟩⟩
                have e2 : uni qs (ad sA) = ad sA := inc_ext (uni_inc hqinc HRA.out.inc) HRA.out.inc fun z => by rw [uni_mem hqinc HRA.out.inc]; exact ⟨fun k => k.elim (h1 z) id, .inr⟩
                have h2 := parts_len hqinc HRA.out.inc
                have h3 := HRA.out.2.1
                rw [e1, e2, ad_len] at h2
                omega
              obtain ⟨qn, hqn⟩ : ∃ k, qs.length = k := ⟨_, rfl⟩
              rw [hqn] at q1 hql
              have HQN := Lib.hid hqn
              have hiz : (i : Int) < (nqA : Int) := by omega
              have hi0 : (0 : Int) ≤ (i : Int) := by omega
              have TTr := Lib.hid (TT.out.below BR.out)
              have VMr := Lib.hid (VM.out.below BR.out VM.out.lt)
              have VAr := Lib.hid (VA.out.below BR.out VA.out.lt)
              have Q0 := Lib.hid q0
              have Q1 := Lib.hid q1
              clear hqk hqc hqok hqm hqsrc hqinc hqn q0 q1
              go_wp2
              refine wp_region_each3 (asV w.heap.size qb nqA ccA i qg qa qn qc) (fun W => Below wr.heap.size wr W) (fun _ A B => Below A.heap.size A B) asD [83, 84, 85, 86, 87, 88, 89, 90, 91, 92, 93, 94, 95, 96, 97, 98, 99] (by kernel_rfl) (by kernel_rfl) (by kernel_rfl) (Below.refl _ wr).drew
                (fun i j oi oj v us A B hoi hoj hij hw hSA hr hv => as_st _ _ _ _ _ _ _ _ _ hr hv) ?hgd
                ⟨?_, ?_, ?_, ?_, ?_, ?_, ?_, ?_, ?_, ?_, ?_, ?_, ?_, ?_, ?_, ?_, ?_, trivial⟩ ?hend
              case hgd =>
                intro i o g b hoi hog v us w hv
                have hi : i < 17 := (Array.getElem?_eq_some_iff.1 hoi).1
                have hc : i = 0 ∨ i = 1 ∨ i = 2 ∨ i = 3 ∨ i = 4 ∨ i = 5 ∨ i = 6 ∨ i = 7 ∨ i = 8 ∨ i = 9 ∨ i = 10 ∨ i = 11 ∨ i = 12 ∨ i = 13 ∨ i = 14 ∨ i = 15 ∨ i = 16 := by omega
                rcases hc with rfl | rfl | rfl | rfl | rfl | rfl | rfl | rfl | rfl | rfl | rfl | rfl | rfl | rfl | rfl | rfl | rfl
                · cases hoi; cases hog
                · cases hoi; cases hog
                · cases hoi; cases hog
                · cases hoi; cases hog
                · cases hoi; cases hog
                · cases hoi; cases hog
                · cases hoi; cases hog
                · cases hoi; cases hog
                · cases hoi; cases hog
                · cases hoi; cases hog; exact hv
                · cases hoi; cases hog; exact hv
                · cases hoi; cases hog; exact hv
                · cases hoi; cases hog; exact hv
                · cases hoi; cases hog; exact hv
                · cases hoi; cases hog; exact hv
                · cases hoi; cases hog; exact hv
                · cases hoi; cases hog
              case refine_1 =>
                intro a' w9 hS h0 hd
                have e9 : a'.tmps[9]?.getD undef = .slice (some ⟨qb, 0, none⟩) nqA ccA := vev (h0 9 (by kernel_rfl))
                refine Does2.value (.slice (some ⟨qb, 0, none⟩) nqA ccA) (w' := w9) ?_ ⟨rfl, hS, Below.refl _ _⟩
                clear hS h0 hd
                go_simp
              case refine_2 =>
                intro a' w9 hS h0 hd
                have e11 : a'.tmps[11]?.getD undef = .int .i64 (i : Int) := vev (h0 11 (by kernel_rfl))
                refine Does2.value (.int .i64 (i : Int)) (w' := w9) ?_ ⟨rfl, hS, Below.refl _ _⟩
                clear hS h0 hd
                go_simp
              case refine_3 =>
                intro a' w9 hS h0 hd
                have e83 : a'.tmps[83]?.getD undef = .slice (some ⟨qb, 0, none⟩) nqA ccA := vev (hd 0 List.mem_cons_self)
                have e84 : a'.tmps[84]?.getD undef = .int .i64 (i : Int) := vev (hd 1 (List.mem_cons_of_mem _ List.mem_cons_self))
                refine Does2.value (.pointer (some ⟨qb, i * 2, none⟩)) (w' := w9) ?_ ⟨rfl, hS, Below.refl _ _⟩
                clear hS h0 hd
                go_simp
              case refine_4 =>
                intro a' w9 hS h0 hd
                have e85 : a'.tmps[85]?.getD undef = .pointer (some ⟨qb, i * 2, none⟩) := vev (hd 2 List.mem_cons_self)
                refine Does2.value (.pointer (some ⟨qb, i * 2, none⟩)) (w' := w9) ?_ ⟨rfl, hS, Below.refl _ _⟩
                clear hS h0 hd
                go_simp
              case refine_5 =>
                intro a' w9 hS h0 hd
                have e86 : a'.tmps[86]?.getD undef = .pointer (some ⟨qb, i * 2, none⟩) := vev (hd 3 List.mem_cons_self)
                have y0 := (hS.cell (cell_lt Q0.out)).trans Q0.out
                simp only [Nat.zero_add] at y0
                refine Does2.value (.int .u32 qg) (w' := w9) ?_ ⟨rfl, hS, Below.refl _ _⟩
                clear hS h0 hd
                go_simp
              case refine_6 =>
                intro a' w9 hS h0 hd
                have e4 : a'.tmps[4]?.getD undef = .pointer (some ⟨w.heap.size + 2, 0, none⟩) := vev (h0 4 (by kernel_rfl))
                refine Does2.value (.pointer (some ⟨w.heap.size + 2, 0, none⟩)) (w' := w9) ?_ ⟨rfl, hS, Below.refl _ _⟩
                clear hS h0 hd
                go_simp
              case refine_7 =>
                intro a' w9 hS h0 hd
                have e88 : a'.tmps[88]?.getD undef = .pointer (some ⟨w.heap.size + 2, 0, none⟩) := vev (hd 5 List.mem_cons_self)
                obtain ⟨y0, y1, y2, y3, -⟩ := (VMr.out.below hS VMr.out.lt).cells
                refine Does2.value (.int .u32 qg) (w' := w9) ?_ ⟨rfl, hS, Below.refl _ _⟩
                clear hS h0 hd
                go_simp
              case refine_8 =>
                intro a' w9 hS h0 hd
                have e87 : a'.tmps[87]?.getD undef = .int .u32 qg := vev (hd 4 List.mem_cons_self)
                have e89 : a'.tmps[89]?.getD undef = .int .u32 qg := vev (hd 6 (List.mem_cons_of_mem _ List.mem_cons_self))
                refine Does2.value (.bool false) (w' := w9) ?_ ⟨rfl, hS, Below.refl _ _⟩
                clear hS h0 hd
                go_simp
              case refine_9 =>
                intro a' w9 hS h0 hd
                have e90 : a'.tmps[90]?.getD undef = .bool false := vev (hd 7 List.mem_cons_self)
                refine Does2.value (.bool false) (w' := w9) ?_ ⟨rfl, hS, Below.refl _ _⟩
                clear hS h0 hd
                go_simp
              case refine_10 =>
                intro a' w9 hS h0 hd
                have e9 : a'.tmps[9]?.getD undef = .slice (some ⟨qb, 0, none⟩) nqA ccA := vev (h0 9 (by kernel_rfl))
                refine Does2.value (.slice (some ⟨qb, 0, none⟩) nqA ccA) (w' := w9) ?_ ⟨rfl, hS, Below.refl _ _⟩
                clear hS h0 hd
                go_simp
              case refine_11 =>
                intro a' w9 hS h0 hd
                have e11 : a'.tmps[11]?.getD undef = .int .i64 (i : Int) := vev (h0 11 (by kernel_rfl))
                refine Does2.value (.int .i64 (i : Int)) (w' := w9) ?_ ⟨rfl, hS, Below.refl _ _⟩
                clear hS h0 hd
                go_simp
              case refine_12 =>
                intro a' w9 hS h0 hd
                have e92 : a'.tmps[92]?.getD undef = .slice (some ⟨qb, 0, none⟩) nqA ccA := vev (hd 9 List.mem_cons_self)
                have e93 : a'.tmps[93]?.getD undef = .int .i64 (i : Int) := vev (hd 10 (List.mem_cons_of_mem _ List.mem_cons_self))
                refine Does2.value (.pointer (some ⟨qb, i * 2, none⟩)) (w' := w9) ?_ ⟨rfl, hS, Below.refl _ _⟩
                clear hS h0 hd
                go_simp
              case refine_13 =>
                intro a' w9 hS h0 hd
                have e94 : a'.tmps[94]?.getD undef = .pointer (some ⟨qb, i * 2, none⟩) := vev (hd 11 List.mem_cons_self)
                refine Does2.value (.pointer (some ⟨qb, i * 2 + 1, none⟩)) (w' := w9) ?_ ⟨rfl, hS, Below.refl _ _⟩
                clear hS h0 hd
                go_simp
              case refine_14 =>
                intro a' w9 hS h0 hd
                have e95 : a'.tmps[95]?.getD undef = .pointer (some ⟨qb, i * 2 + 1, none⟩) := vev (hd 12 List.mem_cons_self)
                have y0 := (hS.cell (cell_lt Q1.out)).trans Q1.out
                simp only [Nat.zero_add] at y0
                refine Does2.value (.slice qa qn qc) (w' := w9) ?_ ⟨rfl, hS, Below.refl _ _⟩
                clear hS h0 hd
                go_simp
              case refine_15 =>
                intro a' w9 hS h0 hd
                have e96 : a'.tmps[96]?.getD undef = .slice qa qn qc := vev (hd 13 List.mem_cons_self)
                refine Does2.call 34 #[.slice qa qn qc] (w' := w9) ?_ ((rRight qa qn qc qs w9 HQN.out (by omega) (AQ.out.below hS)).mono ?_)
                · clear hS h0 hd
                  go_simp
                · have hqi := HQI.out
                  simp only [hqi, decide_true]
                  rintro e w8 ⟨rfl, hb⟩
                  exact ⟨_, rfl, rfl, hS.trans (hb.mono hS.size), hb⟩
              case refine_16 =>
                intro a' w9 hS h0 hd
                have e97 : a'.tmps[97]?.getD undef = .bool true := vev (hd 14 List.mem_cons_self)
                refine Does2.value (.bool false) (w' := w9) ?_ ⟨rfl, hS, Below.refl _ _⟩
                clear hS h0 hd
                go_simp
              case refine_17 =>
                intro a' w9 hS h0 hd
                have e91 : a'.tmps[91]?.getD undef = .bool false := vev (hd 8 List.mem_cons_self)
                have e98 : a'.tmps[98]?.getD undef = .bool false := vev (hd 15 (List.mem_cons_of_mem _ List.mem_cons_self))
                refine Does2.value (.bool false) (w' := w9) ?_ ⟨rfl, hS, Below.refl _ _⟩
                clear hS h0 hd
                go_simp
              case hend =>
                intro f w9 hS hv
                have v99 := hv 16 (by decide)
                replace v99 : f 99 = .bool false := v99
                simp only [putAll, Act.put, List.setIfInBounds_toArray, List.set_cons_zero, List.set_cons_succ, v99]
                have BR2 := Lib.hid (BR.out.trans (hS.mono BR.out.size))
                have TTs := Lib.hid (TTr.out.below hS)
                have VAs := Lib.hid (VAr.out.below hS VAr.out.lt)
                have Q1s := Lib.hid ((hS.cell (cell_lt Q1.out)).trans Q1.out)
                have AQs := Lib.hid (AQ.out.below hS)
                have SSs := Lib.hid ((SSA.out.below BR.out).below hS)
                clear hS hv v99 TTr VMr VAr Q0 Q1 AQ
                go_wp2
                go_loopw [12] (fun v12 wk => ∃ k : Nat, v12 = .int .i64 (k : Int) ∧ k ≤ qn ∧ ∃ q, wk = w9.drewN q) (fun v _ => qn - (intOf v).toNat)
                case atStart => exact ⟨0, rfl, by omega, 0, rfl⟩
                case round =>
                  obtain ⟨k, rfl, hk, dq, rfl⟩ := hrel
                  have y1 : ∀ q, (w9.drewN q).cell? ⟨qb, 0 + i * 2 + 1, none⟩ = some (.slice qa qn qc) := fun q => Q1s.out
                  simp only [Nat.zero_add] at y1
                  by_cases hkl : k < qn
                  · obtain ⟨kb, koff, rfl, hkc⟩ := AQs.out.at (k := k) (by rw [HQN.out]; exact hkl)
                    have hkm : qs.getD k 0 ∈ qs := mem_at (by rw [HQN.out]; exact hkl)
                    have hkcell := hkc k (by rw [HQN.out]; exact hkl)
                    obtain ⟨z, hz⟩ : ∃ z, qs.getD k 0 = z := ⟨_, rfl⟩
                    rw [hz] at hkm hkcell
                    obtain ⟨y, hys, hya, hyl⟩ := HQS.out z hkm
                    obtain ⟨jf, hjf, hje⟩ := List.getElem_of_mem hys
                    have HJ : Hid (sA[jf]? = some y ∧ y.1 = z ∧ y.2 ≤ la) := Lib.hid ⟨by rw [List.getElem?_eq_getElem hjf, hje], hya, hyl⟩
                    have hkzz : (k : Int) < (qn : Int) := by omega
                    have hk0 : (0 : Int) ≤ (k : Int) := by omega
                    have HKC := Lib.hid hkcell
                    clear hkc hkm hys hya hyl hje hz hkcell
                    obtain ⟨t0, t1⟩ := TTs.out
                    obtain ⟨v0, v1, v2, v3, -⟩ := VAs.out.cells
                    have T1 := Lib.hid t1
                    have V3 := Lib.hid v3
                    go_wp2
                    go_loopw [13, 14] (fun v13 v14 wj => ∃ j : Nat, v13 = .bool (decide (jf < j)) ∧ v14 = .int .i64 (j : Int) ∧ j ≤ nA ∧ ∃ q, wj = w9.drewN q) (fun _ v _ => nA - (intOf v).toNat)
                    case atStart => exact ⟨0, by simp, rfl, by omega, dq, rfl⟩
                    case round =>
                      obtain ⟨j, rfl, rfl, hj, dj, rfl⟩ := hrel
                      have w3 : ∀ q, (w9.drewN q).cell? ⟨w104.heap.size, 3, none⟩ = some (.slice aA nA cA) := fun q => V3.out
                      have w5 : ∀ q, (w9.drewN q).cell? ⟨w.heap.size + 1, 1, none⟩ = some (.int .i64 la) := fun q => T1.out
                      have w6 : ∀ q, (w9.drewN q).cell? ⟨kb, koff + k, none⟩ = some (.int .u32 z) := fun q => HKC.out
                      have hnb : nA ≤ 64 := by have h3 := HRA.out.2.1; have h4 := NNA.out; omega
                      by_cases hjl : j < nA
                      · obtain ⟨sb, soff, rfl, hsc⟩ := SSs.out.at (k := j) (by rw [NNA.out]; exact hjl)
                        obtain ⟨⟨a1, a2⟩, hsk⟩ : ∃ y, sA[j]? = some y := ⟨_, List.getElem?_eq_getElem (by rw [NNA.out]; exact hjl)⟩
                        obtain ⟨s0, s1⟩ := hsc j _ hsk
                        simp only at s0 s1
                        have w7 : ∀ q, (w9.drewN q).cell? ⟨sb, soff + j * 2, none⟩ = some (.int .u32 a1) := fun q => s0
                        have w8 : ∀ q, (w9.drewN q).cell? ⟨sb, soff + j * 2 + 1, none⟩ = some (.int .i64 a2) := fun q => s1
                        have hjz : (j : Int) < (nA : Int) := by omega
                        have hj0 : (0 : Int) ≤ (j : Int) := by omega
                        have HSK := Lib.hid hsk
                        have HJL := Lib.hid hjl
                        have HVR := Lib.hid (wrap_jv hjl hnb)
                        have HMS := Lib.hid (wrap_jm hjl hnb)
                        clear hnb
                        clear hsc hsk s0 s1
                        by_cases hf : jf < j
                        · have hd1 : decide (jf < j) = true := decide_eq_true hf
                          have HD2 : Hid (decide (jf < j + 1) = true) := Lib.hid (decide_eq_true (by omega))
                          rw [hd1]
                          clear hd1
                          go_wp2
                          go_quiet (fail)
                          go_wp2
                          go_roundw
                          case rel => exact ⟨j + 1, by rw [HD2.out], HVR.out, HJL.out, _, rfl⟩
                          case measure => exact HMS.out
                        · have hd1 : decide (jf < j) = false := decide_eq_false hf
                          rw [hd1]
                          clear hd1
                          by_cases he : jf = j
                          · have h1 := HJ.out
                            rw [he, HSK.out] at h1
                            obtain ⟨h2, h3, h4⟩ := h1
                            cases h2
                            simp only at h3 h4
                            have hb1 : (a1 == z) = true := by simpa using h3
                            have HD2 : Hid (decide (jf < j + 1) = true) := Lib.hid (decide_eq_true (by omega))
                            clear h3 hf he
                            go_wp2
                            go_quiet (fail)
                            go_wp2
                            go_roundw
                            case rel => exact ⟨j + 1, by rw [HD2.out], HVR.out, HJL.out, _, rfl⟩
                            case measure => exact HMS.out
                          · have hne : a1 ≠ z := fun e => by
                              have h1 := HJ.out
                              have i1 := inc_nodup HRA.out.inc
                              have h5 : (ad sA)[jf]? = some z := by unfold ad; rw [List.getElem?_map, h1.1]; simp [h1.2.1]
                              have h6 : (ad sA)[j]? = some z := by unfold ad; rw [List.getElem?_map, HSK.out]; simp [e]
                              have h7 := (List.getElem?_inj (by rw [ad_len]; exact hjf) i1).1 (h5.trans h6.symm)
                              exact he h7
                            have hb1 : (a1 == z) = false := by simpa using hne
                            have HD2 : Hid (decide (jf < j + 1) = false) := Lib.hid (decide_eq_false (by omega))
                            clear hne hf he
                            go_wp2
                            go_quiet (fail)
                            go_wp2
                            go_roundw
                            case rel => exact ⟨j + 1, by rw [HD2.out], HVR.out, HJL.out, _, rfl⟩
                            case measure => exact HMS.out
                      · obtain rfl : j = nA := by omega
                        have hd1 : decide (jf < j) = true := decide_eq_true (by rw [← NNA.out]; exact hjf)
                        rw [hd1]
                        clear hd1
                        go_wp2
                        go_roundw
                        case rel => exact ⟨k + 1, by go_num, by omega, _, rfl⟩
                        case measure => simp [intOf]; omega
                  · obtain rfl : k = qn := by omega
                    go_wp2
                    go_roundw
                    case rel => exact ⟨i + 1, by go_num, by omega, bdrawn BR2.out _⟩
                    case measure => simp [intOf]; omega
            · obtain rfl : i = nqA := by omega
              have BBf := Lib.hid (BB0.out.trans (BR.out.mono BB0.out.size))
              go_wp2_with fail
              go_ret
              exact ⟨rfl, BBf.out⟩
      · have q3' : (200 : Int) < (ln : Int) := by omega
        clear q3
        obtain ⟨TT0, TT1⟩ := TT.out
        obtain ⟨VM0, VM1, VM2, VM3, -⟩ := VM.out.cells
        go_wp2_with fail
        go_ret
        exact ⟨rfl, BB.out⟩
    · rw [decide_eq_false q2]
      clear q2
      obtain ⟨TT0, TT1⟩ := TT.out
      obtain ⟨VM0, VM1, VM2, VM3, -⟩ := VM.out.cells
      go_wp2_with fail
      go_ret
      exact ⟨rfl, BB.out⟩
  · rw [decide_eq_false q1]
    clear q1
    obtain ⟨TT0, TT1⟩ := TT.out
    obtain ⟨VM0, VM1, VM2, VM3, -⟩ := VM.out.cells
    go_wp2_with fail
    go_ret
    exact ⟨rfl, BB.out⟩

set_option maxRecDepth 100000 in
theorem contract (H : Type) (enc : TypeId × Value → H) (W : World) (base : Nat) (args : Array Value) (ds gs : List (DataW H)) (before : List MemPlace)
    (hval : ∀ (j : Nat) t v, Try.f8.params[j]? = some t → args[j]? = some v → Value.okWide Try.prog W .any base t v)
    (hW : DataW.Whole enc Try.prog Try.f8.params.toList Rows.membAsksSpec.vars false W args.toList ds gs before) (hsz : (DataW.weightsEach Try.prog (Try.f8.params.toList ++ Rows.membAsksSpec.plain.varTypes Try.prog) (ds ++ gs)).all (· ≤ reachBytes) = true) :
    Calls Try.prog 8 args W fun e W' => ∃ v, e = .returned v ∧ Rows.membAsksSpec.post enc Try.prog Try.f8 false true false false W args v W' := by
  have hW' := hW
  obtain ⟨p, q, hA0, hV, rfl, hfz, hnd⟩ := hW
  have hA : DataW.TrodAll enc Try.prog W 0 (fun _ => true) true Try.f8.params.toList args.toList ds p := hA0
  rw [Try.params8] at hA hval
  obtain ⟨v0, vs0, d0, ds0, p0, q0, hargs, rfl, rfl, h0, r0⟩ := trodAll_cons hA
  obtain ⟨rfl, rfl, rfl⟩ := trodAll_nil r0
  obtain rfl : args = #[v0] := by cases args; simp_all
  obtain ⟨rfl, rfl⟩ := trodVars_none hV
  have k0 := h0
  have lt0 : ∀ x ∈ p0, x.block < W.heap.size := by obtain ⟨m, hm⟩ := k0; exact DataW.trod_lt m _ _ _ hm
  obtain ⟨kq0, l0, g0, x0, f0, a0, c0, s0, i0, b0, e0, t0, rfl, q10, q20, q30, q40, q50, q60, q70⟩ := open_asks (hval 0 72 v0 rfl rfl) h0 (fun x hx => by simpa using List.all_eq_true.1 hsz _ (DataW.weights_mem_each (j := 0) rfl rfl x hx))
  clear hA0
  refine (walk W kq0 l0 g0 x0 f0 a0 c0 s0 i0 b0 e0 t0 q10 q20 q30 q40 q50 q60 q70).mono fun e W' ⟨he, bel⟩ => ?_
  subst he
  exact ⟨_, rfl, _, _, _, [], _, [], hW', trodAll_mk1 (shut_bool Try.underlying4 _), (trodAll_cons_mk (Below.trod laidOut (by kernel_rfl) (of_decide_eq_true (by kernel_rfl)) k0 bel lt0) trodAll_mk0), rfl, bel.frame _, fun h => by cases h⟩

set_option maxRecDepth 100000 in
theorem lifted (os : Os) (started : os.Started) (H : Type) (enc : TypeId × Value → H) :
    ReturnsInHanded {} Try.checked os 8 .any (Rows.membAsksSpec.pre6 enc Try.prog Try.f8 Rows.membAsksRow.domain false) (Rows.membAsksSpec.post enc Try.prog Try.f8 false true false false) := by
  refine returnsInHanded_of_change_sized (C := Try.checked) own started (by kernel_rfl) Try.func8
    (ChangeSpec.witness6 (enc := enc) (C := Try.checked) false ⟨#[], #[(.agg #[.int .i64 0, .int .i64 0, .int .u32 0, .bool false, .int .i64 0, .slice none 0 0, .int .u8 0, .slice none 0 0])], []⟩ 8 (by kernel_rfl) (by kernel_rfl) (by kernel_rfl) (by kernel_rfl)) ?_
  intro W base args ds gs before hval hW hcnd hsz _
  exact contract H enc W base args ds gs before hval hW hsz
theorem said : Rows.MembAsksSaid :=
  OpenClaim.holds_of_wide 8 Try.f8 rfl rfl rfl rfl rfl rfl rfl ⟨rfl, rfl, rfl, rfl, rfl⟩ rfl rfl rfl rfl rfl (by kernel_rfl) Try.func8 (by kernel_rfl)
    (of_decide_eq_true (by kernel_rfl)) (by unfold Func.isWrapper; first | (rw [if_pos (by decide +kernel)]; kernel_rfl) | (rw [if_neg (by decide +kernel)]; exact ⟨rfl, rfl⟩))
    (fun os started H enc _ => lifted os started H enc)
#print axioms said
end Go.Proofs.Ytllpmepmgnnoaaa.membAsks
