/- The law AddrTexts: every call returns true, and its arguments read behind the call as before it. Condition: none but the row's own (the library's three tables as the program's text lays them: the card ties them). -/
import Derived.Test.YtkkemcfigjnbgaaDoorFr
import Derived.Deep.Fields
namespace Go.Proofs.YtkkemcfigjnbgaaDoor.addrTexts
set_option linter.unusedVariables false
open Go.ChangeShapes Go.WideShapes Go.ChangeAt Go.RowKit
open Go.ChangeMaps (open_string shut_string)

/-- A struct of one-cell fields that came in by value: its cells, each with its own reading. -/
theorem agg_open {H : Type} {enc : TypeId × Value → H} {P : Program} {w : World} {base : Nat} {spare : Nat → Bool} {held : Bool} {r : Reach} {b0 : Nat} {t : TypeId} {fs : Array Field} {v : Value} {d : DataW H} {p : List MemPlace}
    (hs : P.underlying t = some (.struct fs)) (hone : Go.Deep.oneCellFields P fs = true) (hC : P.cellsOf t = fs.size) (hv : Value.okWide P w r b0 t v) (h : DataW.Trod enc P w base spare held t v d p) :
    ∃ (cs : List Value) (n : Nat), v = .agg cs.toArray ∧ cs.length = fs.size ∧ ∀ (j : Nat) (f : Field), fs[j]? = some f → ∃ (c : Value) (y : DataW H × List MemPlace), cs[j]? = some c ∧ DataW.trod enc P w base spare held n f.type [c] = some y := by
  obtain ⟨cs, rfl, hsz⟩ := okWide_struct hs hv
  obtain ⟨l⟩ := cs
  have hl : l.length = fs.size := by rw [← hC, ← hsz]; rfl
  obtain ⟨fuel, hf⟩ := h
  obtain ⟨xs, n, _, _, _, hlen, hg⟩ := DataW.trod_struct hs hf
  refine ⟨l, n, rfl, hl, fun j f hj => ?_⟩
  obtain ⟨ho, hk⟩ := Go.Deep.hone_of hone j f hj
  have hjl : j < fs.size := (Array.getElem?_eq_some_iff.1 hj).1
  have hc : l[j]? = some (l[j]'(by omega)) := List.getElem?_eq_getElem (by omega)
  have hx : xs[j]? = some (xs[j]'(by omega)) := List.getElem?_eq_getElem (by omega)
  have h1 := hg j f hj
  rw [ho, hk, hx] at h1
  have e : ((Value.agg ⟨l⟩).cells.toList.drop j).take 1 = [l[j]'(by omega)] := by
    show (l.drop j).take 1 = _
    rw [List.drop_eq_getElem_cons (by omega)]; rfl
  exact ⟨_, _, hc, by rw [← e]; exact h1⟩

theorem txt_eq (a : Int) : txt a = dd (byt a 0) ++ 46 :: (dd (byt a 1) ++ 46 :: (dd (byt a 2) ++ 46 :: dd (byt a 3))) := rfl
theorem txt_chars {a : Int} (h0 : 0 ≤ a) (h1 : a ≤ 4294967295) : ∀ c ∈ txt a, c = 46 ∨ (48 ≤ c.toNat ∧ c.toNat ≤ 57) := by
  have g := fun k => dd_digit (byt_bd h0 h1 k).1 (byt_bd h0 h1 k).2
  intro c hc
  rw [txt_eq] at hc
  simp only [List.mem_append, List.mem_cons] at hc
  rcases hc with h | rfl | h | rfl | h | rfl | h
  · exact .inr (g 0 c h)
  · exact .inl rfl
  · exact .inr (g 1 c h)
  · exact .inl rfl
  · exact .inr (g 2 c h)
  · exact .inl rfl
  · exact .inr (g 3 c h)
theorem dd_count {x : Int} (h0 : 0 ≤ x) (h1 : x ≤ 255) : (dd x).count 46 = 0 := by
  rw [List.count_eq_zero]
  intro h
  exact dd_nodot h0 h1 46 h rfl
theorem txt_count {a : Int} (h0 : 0 ≤ a) (h1 : a ≤ 4294967295) : (txt a).count 46 = 3 := by
  have g := fun k => dd_count (byt_bd h0 h1 k).1 (byt_bd h0 h1 k).2
  rw [txt_eq]
  simp [List.count_append, g]
theorem txt_len {a : Int} (h0 : 0 ≤ a) (h1 : a ≤ 4294967295) : 7 ≤ (txt a).length ∧ (txt a).length ≤ 15 := by
  have g := fun k => dd_len (byt_bd h0 h1 k).1 (byt_bd h0 h1 k).2
  have g0 := g 0
  have g1 := g 1
  have g2 := g 2
  have g3 := g 3
  rw [txt_eq]
  simp only [List.length_append, List.length_cons]
  omega
theorem bad_behind {A : Int} (h0 : 0 ≤ A) (h1 : A ≤ 4294967295) {c : UInt8} {r : List UInt8} (hc : c.toNat < 48 ∨ 57 < c.toNat) : ∀ a, ¬ IsText (txt A ++ c :: r) a := by
  rintro a ⟨ha0, ha1, e⟩
  have hm := txt_chars ha0 ha1 c (by rw [e]; simp)
  rcases hm with rfl | hm
  · have k := txt_count ha0 ha1
    rw [e, List.count_append, txt_count h0 h1, List.count_cons_self] at k
    omega
  · omega
theorem bad_ahead {A : Int} {c : UInt8} {r : List UInt8} (hc : c.toNat < 48 ∨ 57 < c.toNat) : ∀ a, ¬ IsText ((c :: r) ++ txt A) a := by
  rintro a ⟨ha0, ha1, e⟩
  have g := byt_bd ha0 ha1 0
  have l := dd_len g.1 g.2
  have d := dd_digit g.1 g.2
  rw [txt_eq] at e
  match hd : dd (byt a 0), l with
  | x :: t, _ =>
    rw [hd] at e d
    simp only [List.cons_append, List.cons.injEq] at e
    have := d x (by simp)
    rw [e.1] at this
    omega
  | [], l => simp at l

theorem cnt_succ (t : ByteArray) (k : Nat) (h : k < t.size) : (t.data.toList.take (k + 1)).count 46 = (t.data.toList.take k).count 46 + if t[k].toNat = 46 then 1 else 0 := by
  have e : t.data.toList.take (k + 1) = t.data.toList.take k ++ [t[k]] := by
    rw [List.take_succ_eq_append_getElem (by simpa using h)]; rfl
  rw [e, List.count_append, List.count_cons, List.count_nil]
  congr 1
  by_cases h46 : t[k].toNat = 46
  · have : t[k] = 46 := by apply UInt8.toNat.inj; simpa using h46
    simp [this]
  · have : ¬ t[k] = 46 := by intro e; rw [e] at h46; simp at h46
    simp [this, h46]

/-- What both parses come to. -/
theorem ends {A : Int} (h0 : 0 ≤ A) (h1 : A ≤ 4294967295) (s : ByteArray) :
    (s.size = 0 ∧ pe ((⟨(txt A).toArray⟩ : ByteArray) ++ s).data.toList = 0 ∧ pe (s ++ (⟨(txt A).toArray⟩ : ByteArray)).data.toList = 0) ∨
    (∃ h : 0 < s.size, 48 ≤ (s[0]'h).toNat ∧ (s[0]'h).toNat ≤ 57) ∨
    (∃ h : 0 < s.size, ((s[0]'h).toNat < 48 ∨ 57 < (s[0]'h).toNat) ∧ pe ((⟨(txt A).toArray⟩ : ByteArray) ++ s).data.toList = 2 ∧ pe (s ++ (⟨(txt A).toArray⟩ : ByteArray)).data.toList = 2) := by
  have e1 : ((⟨(txt A).toArray⟩ : ByteArray) ++ s).data.toList = txt A ++ s.data.toList := by simp
  have e2 : (s ++ (⟨(txt A).toArray⟩ : ByteArray)).data.toList = s.data.toList ++ txt A := by simp
  rw [e1, e2]
  by_cases hs : s.size = 0
  · have hn : s.data.toList = [] := List.eq_nil_of_length_eq_zero (by simpa using hs)
    rw [hn, List.append_nil, List.nil_append]
    have := (p_yes (s := txt A) ⟨h0, h1, rfl⟩).2
    exact .inl ⟨hs, this, this⟩
  · have hp : 0 < s.size := by omega
    by_cases hd : 48 ≤ (s[0]'hp).toNat ∧ (s[0]'hp).toNat ≤ 57
    · exact .inr (.inl ⟨hp, hd⟩)
    · have hc := drop_cons s 0 hp
      rw [List.drop_zero] at hc
      have hodd : (s[0]'hp).toNat < 48 ∨ 57 < (s[0]'hp).toNat := by omega
      rw [hc]
      exact .inr (.inr ⟨hp, hodd, (p_no (bad_behind h0 h1 hodd)).2, (p_no (bad_ahead hodd)).2⟩)

def InTxt (t : ByteArray) : Prop := (∀ k (h : k < t.size), t[k].toNat = 46 ∨ (48 ≤ t[k].toNat ∧ t[k].toNat ≤ 57)) ∧ t.data.toList.count 46 = 3 ∧ 7 ≤ t.size ∧ t.size ≤ 15
theorem inTxt {A : Int} (h0 : 0 ≤ A) (h1 : A ≤ 4294967295) : InTxt ⟨(txt A).toArray⟩ := by
  refine ⟨fun k h => ?_, txt_count h0 h1, ?_⟩
  · have hm : (⟨(txt A).toArray⟩ : ByteArray)[k] ∈ txt A := by
      show (txt A).toArray[k] ∈ txt A
      rw [List.getElem_toArray]
      exact List.getElem_mem _
    rcases txt_chars h0 h1 _ hm with e | e
    · left; rw [e]; rfl
    · exact .inr e
  · simpa [ByteArray.size] using txt_len h0 h1

set_option maxHeartbeats 4000000 in
theorem walk (w : World) (a b c d : Int) (s : ByteArray) (ha : 0 ≤ a ∧ a ≤ 255) (hb : 0 ≤ b ∧ b ≤ 255) (hc : 0 ≤ c ∧ c ≤ 255) (hd : 0 ≤ d ∧ d ≤ 255) (hs : s.size ≤ 9223372036854775807) (htab : Lib.TabIs Tryd.prog w "internal/strconv.uint64pow10" .u64 Lib.pow10Tab) :
    Calls Tryd.prog 7 #[.agg #[.int .u8 a, .int .u8 b, .int .u8 c, .int .u8 d, .string s]] w fun e w' => e = .returned (.bool true) ∧ Below w.heap.size w w' := by
  have HT := Lib.hid (Lib.tabBelow_of_tabIs htab)
  obtain ⟨ha0, ha1⟩ := ha
  obtain ⟨hb0, hb1⟩ := hb
  obtain ⟨hc0, hc1⟩ := hc
  obtain ⟨hd0, hd1⟩ := hd
  have HB0 := Lib.hid ((Below.refl w.heap.size w).alloc (Nat.le_refl _) (.cells #[.int .u8 a, .int .u8 b, .int .u8 c, .int .u8 d, .string s] 42))
  clear htab
  go_enter Tryd.func7, Tryd.ntmps7
  go_wp2_with fail
  refine (aShown _ (HT.out _ HB0.out)).mono ?_
  rintro e w1 ⟨rfl, h1⟩
  have HB1 := Lib.hid (HB0.out.trans (h1.mono HB0.out.size))
  clear h1
  by_cases h50 : 50 < s.size
  · go_wp2_with fail
    go_ret
    exact ⟨rfl, HB1.out⟩
  · go_wp2_with fail
    obtain ⟨A, hA⟩ : ∃ A, A = a * 16777216 + b * 65536 + c * 256 + d := ⟨_, rfl⟩
    rw [← hA]
    have hA0 : 0 ≤ A := by omega
    have hA1 : A ≤ 4294967295 := by omega
    clear hA
    refine (aText A w1 hA0 hA1 (HT.out w1 HB1.out)).mono ?_
    rintro e w2 ⟨rfl, hb2⟩
    have HB2 := Lib.hid (HB1.out.trans (hb2.mono HB1.out.size))
    clear hb2
    have hE := ends hA0 hA1 s
    have hin := inTxt hA0 hA1
    generalize (⟨(txt A).toArray⟩ : ByteArray) = t at *
    obtain ⟨E1, h1⟩ : ∃ E, E = pe (t ++ s).data.toList := ⟨_, rfl⟩
    obtain ⟨E2, h2⟩ : ∃ E, E = pe (s ++ t).data.toList := ⟨_, rfl⟩
    rw [← h1, ← h2] at hE
    have HE := Lib.hid hE
    have HE1 := Lib.hid h1
    have HE2 := Lib.hid h2
    clear hE h1 h2
    obtain ⟨hch, hcount, ht7, ht15⟩ := hin
    have HCH := Lib.hid hch
    have HCNT := Lib.hid hcount
    clear hch hcount
    go_wp2_with fail
    go_loop [10, 11] (fun pv iv => ∃ k : Nat, k ≤ t.size ∧ iv = .int .i64 k ∧ pv = .int .i64 ((t.data.toList.take k).count 46 : Nat)) (fun _ iv => t.size - (intOf iv).toNat)
    case atStart => exact ⟨0, by omega, rfl, rfl⟩
    case round =>
      obtain ⟨k, hk, rfl, rfl⟩ := hrel
      have hle : (t.data.toList.take k).count 46 ≤ k := Nat.le_trans List.count_le_length (List.length_take_le _ _)
      by_cases hlt : k < t.size
      · have hs1 := cnt_succ t k hlt
        have hch := HCH.out k hlt
        generalize (t.data.toList.take k).count 46 = p at *
        rcases Nat.decEq t[k].toNat 46 with h46 | h46
        · rw [if_neg h46] at hs1
          have hb : (((t[k].toNat : Nat) : Int) == 46) = false := by rw [beq_eq_false_iff_ne]; omega
          have g1 : 48 ≤ t[k].toNat := by omega
          have g2 : t[k].toNat ≤ 57 := by omega
          have HS1 := Lib.hid hs1
          clear hs1 hch h46
          go_wp2_with fail
          go_round
          case rel => exact ⟨k + 1, by omega, by go_num, by rw [HS1.out]; rfl⟩
          case measure => simp [intOf]; omega
        · rw [if_pos h46] at hs1
          have hb : (((t[k].toNat : Nat) : Int) == 46) = true := by rw [beq_iff_eq]; omega
          have HS1 := Lib.hid hs1
          have H46 := Lib.hid h46
          clear hs1 hch h46
          go_wp2_with fail
          go_round
          case rel => exact ⟨k + 1, by omega, by go_num, by rw [HS1.out]; go_num⟩
          case measure => simp [intOf]; omega
      · obtain rfl : k = t.size := by omega
        have hfull : (t.data.toList.take t.size).count 46 = 3 := by rw [List.take_of_length_le (by simp)]; exact HCNT.out
        rw [hfull]
        clear hfull hle
        go_wp2_with fail
        refine (aParse _ w2 (by simp; omega)).mono ?_
        rintro e w3 ⟨rfl, hb3⟩
        have HB3 := Lib.hid (HB2.out.trans (hb3.mono HB2.out.size))
        clear hb3
        rw [← HE1.out]
        go_wp2_with fail
        refine (aParse _ w3 (by simp; omega)).mono ?_
        rintro e w4 ⟨rfl, hb4⟩
        have HB4 := Lib.hid (HB3.out.trans (hb4.mono HB3.out.size))
        clear hb4
        rw [← HE2.out]
        rcases HE.out with ⟨hz, h1, h2⟩ | ⟨hz, h1, h2⟩ | ⟨hz, h1, h2, h3⟩
        · rw [h1, h2]
          have h0 : ¬ 0 < s.size := by omega
          have HZ := Lib.hid hz
          clear h1 h2 hz
          go_wp2_with fail
          go_ret
          exact ⟨rfl, HB4.out⟩
        · go_wp2_with fail
          go_ret
          exact ⟨rfl, HB4.out⟩
        · rw [h2, h3]
          clear h2 h3
          rcases h1 with h1 | h1
          · go_wp2_with fail
            go_ret
            exact ⟨rfl, HB4.out⟩
          · have h48 : ¬ s[0].toNat < 48 := by omega
            go_wp2_with fail
            go_ret
            exact ⟨rfl, HB4.out⟩

theorem contract (H : Type) (enc : TypeId × Value → H) (W : World) (base : Nat) (args : Array Value) (ds gs : List (DataW H)) (before : List MemPlace)
    (hval : ∀ (j : Nat) t v, Tryd.f7.params[j]? = some t → args[j]? = some v → Value.okWide Tryd.prog W .any base t v)
    (hW : DataW.Whole enc Tryd.prog Tryd.f7.params.toList Rows.addrTextsSpec.vars false W args.toList ds gs before) (hL : laidMetH Tryd.prog Rows.addrTextsRow.laid W) :
    Calls Tryd.prog 7 args W fun e W' => ∃ v, e = .returned v ∧ Rows.addrTextsSpec.post enc Tryd.prog Tryd.f7 false true false false W args v W' := by
  have hW' := hW
  obtain ⟨p, q, hA0, hV, rfl, hfz, hnd⟩ := hW
  have hA : DataW.TrodAll enc Tryd.prog W 0 (fun _ => true) true Tryd.f7.params.toList args.toList ds p := hA0
  rw [Tryd.params7] at hA hval
  obtain ⟨v0, vs0, d0, ds0, p0, q0, hargs, rfl, rfl, h0, r0⟩ := trodAll_cons hA
  obtain ⟨rfl, rfl, rfl⟩ := trodAll_nil r0
  obtain rfl : args = #[v0] := by cases args; simp_all
  obtain ⟨rfl, rfl⟩ := trodVars_none hV
  have k0 := h0
  have lt0 : ∀ x ∈ p0, x.block < W.heap.size := by obtain ⟨m, hm⟩ := k0; exact DataW.trod_lt m _ _ _ hm
  obtain ⟨cs, nf, rfl, hlen, hf⟩ := agg_open Tryd.underlying42 (by kernel_rfl) (by kernel_rfl) (hval 0 42 v0 rfl rfl) h0
  match cs, hlen with
  | [c0, c1, c2, c3, c4], _ =>
  obtain ⟨_, _, e0, t0⟩ := hf 0 _ rfl
  obtain ⟨_, _, e1, t1⟩ := hf 1 _ rfl
  obtain ⟨_, _, e2, t2⟩ := hf 2 _ rfl
  obtain ⟨_, _, e3, t3⟩ := hf 3 _ rfl
  obtain ⟨_, _, e4, t4⟩ := hf 4 _ rfl
  obtain ⟨x0, q0, _, w0⟩ := DataW.trod_int Tryd.underlying5 t0
  obtain ⟨x1, q1, _, w1⟩ := DataW.trod_int Tryd.underlying5 t1
  obtain ⟨x2, q2, _, w2⟩ := DataW.trod_int Tryd.underlying5 t2
  obtain ⟨x3, q3, _, w3⟩ := DataW.trod_int Tryd.underlying5 t3
  obtain ⟨x4, q4, _, w4⟩ := DataW.trod_string Tryd.underlying9 t4
  simp at e0 e1 e2 e3 e4 q0 q1 q2 q3 q4
  subst e0 e1 e2 e3 e4
  subst q0 q1 q2 q3 q4
  clear hA0
  refine (walk W x0 x1 x2 x3 x4 (bounds_u8 w0) (bounds_u8 w1) (bounds_u8 w2) (bounds_u8 w3) (by unfold maxLen at w4; omega) (table hL)).mono fun e W' ⟨he, bel⟩ => ?_
  subst he
  exact ⟨_, rfl, _, _, _, [], _, [], hW', trodAll_mk1 (shut_bool Tryd.underlying4 _), (trodAll_cons_mk (Below.trod laidOut (by kernel_rfl) (of_decide_eq_true (by kernel_rfl)) k0 bel lt0) trodAll_mk0), rfl, bel.frame _, fun h => by cases h⟩

set_option maxRecDepth 100000 in
theorem lifted (os : Os) (started : os.Started) (H : Type) (enc : TypeId × Value → H) (F : Stop.Interp) :
    ReturnsInHanded {} Tryd.checked os 7 .any ((OpenSpec.ofChange Rows.addrTextsSpec).preRow enc Tryd.prog Tryd.f7 Rows.addrTextsRow.domain false Rows.addrTextsRow.laid) (((OpenSpec.ofChange Rows.addrTextsSpec).at F).post enc Tryd.prog Tryd.f7 false true false false) := by
  obtain ⟨places, hx⟩ : ∃ places, DataW.whole enc Tryd.prog ((World.doorLaid Tryd.prog 400 os).forCall (fun _ _ => 0) ⟨#[], #[(.agg #[.int .u8 0, .int .u8 0, .int .u8 0, .int .u8 0, .string ByteArray.empty])], []⟩).memory Tryd.f7.params.toList Rows.addrTextsSpec.vars false (#[(.agg #[.int .u8 0, .int .u8 0, .int .u8 0, .int .u8 0, .string ByteArray.empty])] : Array Value).toList 8 = some ([.agg [.lit (.int .u8 0), .lit (.int .u8 0), .lit (.int .u8 0), .lit (.int .u8 0), .lit (.string [])]], [], places) := ⟨[], by kernel_rfl⟩
  refine returnsInHanded_of_row (C := Tryd.checked) (s := OpenSpec.ofChange Rows.addrTextsSpec) own started (by kernel_rfl) Tryd.func7
    (witness_row_at (enc := enc) (C := Tryd.checked) false (World.doorLaid Tryd.prog 400 os) #[(.agg #[.int .u8 0, .int .u8 0, .int .u8 0, .int .u8 0, .string ByteArray.empty])] rfl (by kernel_rfl) (by kernel_rfl) (by kernel_rfl)
      (OpenSpec.preRow_of_cond 8 hx (by kernel_rfl) (fun k hk => by cases hk) (by kernel_rfl) (door_met os _))) ?_
  intro W base args ds gs before hval hW _ _ _ hL _ _
  exact contract H enc W base args ds gs before hval hW hL

theorem said : Rows.AddrTextsSaid :=
  OpenClaim.holds_of_cond 7 Tryd.f7 rfl rfl rfl rfl rfl rfl rfl ⟨rfl, rfl, rfl, rfl, rfl⟩ rfl rfl rfl rfl rfl (by kernel_rfl) Tryd.func7 (by kernel_rfl)
    (of_decide_eq_true (by kernel_rfl)) (by unfold Func.isWrapper; first | (rw [if_pos (by decide +kernel)]; kernel_rfl) | (rw [if_neg (by decide +kernel)]; exact ⟨rfl, rfl⟩))
    (fun os started H enc _ F => by rw [OpenClaim.pre_eq_preRow]; exact lifted os started H enc F)

theorem plain (f : FuncId) (fn : Func) (hf : Tryd.pinned.checked.prog.funcNamed "stolon/stolonlaw01.AddrTexts" = some f) (hfn : Tryd.pinned.checked.prog.funcs[f]? = some fn) :
    false = Tryd.pinned.checked.prog.looks [] ∧ ∀ (j : Nat) t, fn.params[j]? = some t → Tryd.pinned.checked.prog.wantsStandIn t = false := by
  obtain rfl : f = 7 := Option.some.inj ((show Tryd.prog.funcNamed "stolon/stolonlaw01.AddrTexts" = some 7 by kernel_rfl).symm.trans hf) |>.symm
  obtain rfl : fn = Tryd.f7 := (Option.some.inj (Tryd.func7.symm.trans hfn)).symm
  refine ⟨by kernel_rfl, fun j t ht => ?_⟩
  rw [Tryd.params7] at ht
  have ht' := Array.mem_of_getElem? ht
  simp only [Array.mem_def, List.mem_cons, List.not_mem_nil, or_false] at ht'
  rcases ht' with rfl
  · exact (show Tryd.prog.wantsStandIn 42 = false by kernel_rfl)

theorem card : Rows.AddrTextsCardSaid :=
  Claim7.holds_tied_plain_at .later [] _ _ _ _ said (fun _ h => by cases h) (by kernel_rfl) (fun _ h => by cases h) addrTexts_row_tie rfl ⟨rfl, rfl⟩ (by kernel_rfl) rfl plain (by kernel_rfl)
#print axioms card
end Go.Proofs.YtkkemcfigjnbgaaDoor.addrTexts
