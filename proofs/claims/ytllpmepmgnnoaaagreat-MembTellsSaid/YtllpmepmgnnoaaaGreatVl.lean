/- The same in memory of its own; what each type does, in a map. -/
import Derived.Test.YtllpmepmgnnoaaaGreatVk
import Derived.Test.YtllpmepmgnnoaaaGreatVj
import Derived.MapKept
namespace Go.Proofs.YtllpmepmgnnoaaaGreat
set_option linter.unusedVariables false
open Go.RowKit

theorem own_mtv (w : World) (B : Nat) (e : TypeId) (size : Nat) (hB : B ≤ w.heap.size) : (w.alloc (.cells #[] e)).ownsRow B e size (.slice (some ⟨w.heap.size, 0, none⟩) 0 0) 0 [] :=
  ⟨by simp, .inr ⟨_, 0, #[], rfl, hB, Go.Deep.blk_alloc_new _ _, Nat.le_refl _, by decide, by simp, by simp⟩⟩
theorem ret_v3 {P : Program} {fn : Func} {R : Ending → World → Prop} {a : Act} {w : World} {p u v : Nat} {ty : TypeId} {q : Addr} {x : Value} (hr : fn.results = #[.cell p ty, .tmp u, .tmp v]) (hd : a.defers = []) (hp : a.tmps.getD p undef = .pointer (some q))
    (hl : (loadVar ty q).run P w = .ok x w) (hR : R (.returned (.tuple #[x, a.tmps.getD u undef, a.tmps.getD v undef])) w) : bodyPost P fn R .ret a w := by
  refine ⟨hd, _, ?_, hR⟩
  have hp' : a.tmps[p]?.getD undef = .pointer (some q) := by simpa using hp
  simp only [results, hr]
  simp [Result.andThen, asAddr, hp', hl]
set_option maxRecDepth 100000 in
/-- slices.Clone of sources. -/
theorem lCloneH (a : Option Addr) (n c : Nat) (s : List Hd) (w : World) (hx : s.length = n) (hm : n ≤ 100000) (h : Hs w a s) (hf : a = none → c = 0) :
    Calls Tryz.prog 47 #[.slice a n c] w fun e w' => OutK w e w' s := by
  obtain ⟨i0, hi0, hz0, hz1, hz2⟩ := info_parts infoHd
  have HX := Lib.hid hx
  match a, hf, h with
  | none, hf, h =>
    obtain rfl : c = 0 := hf rfl
    have e : s = [] := by
      rcases h.1 with e | ⟨_, _, e, _⟩
      · exact e
      · cases e
    subst e
    obtain rfl : n = 0 := by simpa using hx.symm
    clear hx
    have heq : ∀ w : World, (binOp .eql 26 (.slice none 0 0) (.slice none 0 0)).run Tryz.prog w = .ok (.bool true) w := fun w => by kernel_rfl
    go_enter Tryz.func47, Tryz.ntmps47
    go_wp2
    go_ret
    exact ⟨⟨none, 0, rfl, World.ownsRow_nil _ _ _ _⟩, Below.refl _ _⟩
  | some ad, hf, h =>
    have HC : Hid (∀ j u, (hv s)[j]? = some u → w.cell? (ad.add j) = some u) := Lib.hid (by
      intro j u hu
      rcases h.1 with e | ⟨b, off, e, hc⟩
      · subst e; simp [hv] at hu
      · obtain rfl : ad = ⟨b, off, none⟩ := by simpa using e
        rw [add_flat]
        exact Hs.cell ⟨.inr ⟨b, off, rfl, hc⟩, h.2⟩ j u hu)
    have OW := Lib.hid (own_mtv w w.heap.size 50 2 (Nat.le_refl _))
    have HLN : Hid ((hv s).length = n * 2) := Lib.hid (by rw [hv_len, hx])
    clear hx h hf
    have heq : ∀ w : World, (binOp .eql 26 (.slice (some ad) n c) (.slice none 0 0)).run Tryz.prog w = .ok (.bool false) w := fun w => by kernel_rfl
    go_enter Tryz.func47, Tryz.ntmps47
    go_wp2_with ((refine wpList_append_own (w.alloc (.cells #[] 50)) rfl (.tmp 5) (.tmp 6) 26 rfl w.heap.size 50 i0 _ 2 16 Tryz.underlying26 hi0 hz0 hz1 hz2 rfl (by decide) _ 0 [] rfl OW.out ad n c (hv s) rfl HLN.out (fun j u hu => (((bel1 w _).cell (cell_lt (HC.out j u hu))).trans (HC.out j u hu))) (hv_one s) (by unfold maxLen; omega) (by omega) (by simp) ?_; intro v' w' hown hg hlast))
    go_ret
    obtain ⟨a1, c1, rfl, hfl⟩ := own_sl hown
    have hb : Below w.heap.size w w' := (bel1 w _).trans (grown_below OW.out hg (by simp))
    rw [List.nil_append] at hown
    simp only [Nat.zero_add] at hown ⊢
    rw [← HX.out] at hown ⊢
    exact ⟨⟨_, _, rfl, hown⟩, hb⟩
set_option maxRecDepth 100000 in
/-- slices.Clone of addresses, wherever they lie. -/
theorem lCloneV (a : Option Addr) (n c : Nat) (xs : List Int) (w : World) (hx : xs.length = n) (hm : n ≤ 200000) (h : As w a xs) (hf : a = none → c = 0) :
    Calls Tryz.prog 48 #[.slice a n c] w fun e w' => Out w e w' xs := by
  have HX := Lib.hid hx
  match a, hf, h with
  | none, hf, h =>
    obtain rfl : c = 0 := hf rfl
    have e : xs = [] := by
      rcases h.1 with e | ⟨_, _, e, _⟩
      · exact e
      · cases e
    subst e
    obtain rfl : n = 0 := by simpa using hx.symm
    clear hx
    have heq : ∀ w : World, (binOp .eql 29 (.slice none 0 0) (.slice none 0 0)).run Tryz.prog w = .ok (.bool true) w := fun w => by kernel_rfl
    go_enter Tryz.func48, Tryz.ntmps48
    go_wp2
    go_ret
    exact ⟨⟨none, 0, rfl, As.nil _ _, .inl ⟨rfl, rfl, rfl⟩⟩, Below.refl _ _⟩
  | some ad, hf, h =>
    have H := Lib.hid h
    have OW := Lib.hid (own_mtv w w.heap.size 25 1 (Nat.le_refl _))
    clear hx h hf
    have heq : ∀ w : World, (binOp .eql 29 (.slice (some ad) n c) (.slice none 0 0)).run Tryz.prog w = .ok (.bool false) w := fun w => by kernel_rfl
    go_enter Tryz.func48, Tryz.ntmps48
    go_wp2_with ((refine wpList_app_as rfl (.tmp 5) (.tmp 6) rfl w.heap.size _ 0 [] rfl OW.out rfl (some ad) n c xs rfl HX.out (H.out.below (bel1 w _)) (by intro e; cases e) (by omega) (by simp) ?_; intro a' cap' w' hown hg))
    go_ret
    have ho := hown.out
    rw [List.nil_append] at ho
    have hb : Below w.heap.size w w' := (bel1 w _).trans (grown_below OW.out hg.out (by simp))
    simp only [Nat.zero_add] at ho ⊢
    rw [← HX.out] at ho ⊢
    obtain ⟨a1, c1, e1, hfl⟩ := own_sl ho
    cases e1
    exact ⟨⟨_, _, rfl, (AsO.of rfl ho).as H.out.2, hfl⟩, hb⟩
set_option maxHeartbeats 1000000 in
/-- The set of a row, wherever that lies. -/
theorem vMake (a : Option Addr) (n c : Nat) (xs : List Int) (w : World) (hx : xs.length = n) (hm : n ≤ 200000) (h : As w a xs) (hf : a = none → c = 0) :
    Calls Tryz.prog 24 #[.slice a n c] w fun e w' => Out w e w' (mk xs) := by
  by_cases h0 : xs = []
  · subst h0
    obtain rfl : n = 0 := by simpa using hx.symm
    have HF := Lib.hid hf
    clear hf hx h
    go_enter Tryz.func24, Tryz.ntmps24
    go_wp2_with fail
    refine (lCloneV a 0 c [] _ rfl (by omega) (As.nil _ _) HF.out).mono ?_
    rintro e w1 ⟨⟨a1, c1, rfl, hA, hfl⟩, hb⟩
    have HB := Lib.hid hb
    have HFL := Lib.hid hfl
    clear hA hb hfl
    go_wp2_with (first | (go_at_call 49; refine (sSort0 _ _ _).mono ?_; rintro e w1 ⟨rfl, rfl⟩) | (go_at_call 50; refine (lCompact0 _ _ _).mono ?_; rintro e w1 ⟨rfl, rfl⟩))
    go_ret
    exact ⟨⟨a1, c1, rfl, As.nil _ _, HFL.out⟩, HB.out⟩
  · rcases h.1 with h1 | ⟨b, off, e, _⟩
    · exact absurd h1 h0
    · exact sMake a n c xs w hx (by omega) h (.inr ⟨b, off, e⟩)
/-- What is known, handed back. -/
def OutM (w : World) (e : Ending) (w' : World) (g : Int) (ex : Bool) (left : Int) (s : List Hd) : Prop :=
  (∃ a c, e = .returned (.agg #[.int .u32 g, .bool ex, .int .i64 left, .slice a s.length c]) ∧ HT w' a s) ∧ Below w.heap.size w w'
theorem mk2m (w : World) (g : Int) (ex : Bool) (left : Int) (a : Option Addr) (n c : Nat) (W : World)
    (hW : W = (w.alloc (.cells #[.int .u32 g, .bool ex, .int .i64 left, .slice a n c] 28)).alloc (.cells #[.int .u32 0, .bool false, .int .i64 0, .slice none 0 0] 28)) :
    W.heap.size = w.heap.size + 2 ∧ MV W w.heap.size g ex left a n c ∧ MV W (w.heap.size + 1) 0 false 0 none 0 0 ∧ Below w.heap.size w W := by
  subst hW
  have e1 : (w.alloc (.cells #[.int .u32 g, .bool ex, .int .i64 left, .slice a n c] 28)).heap.size = w.heap.size + 1 := World.size_alloc _ _
  have v0 := MV.new w g ex left a n c
  have v2 := MV.new (w.alloc (.cells #[.int .u32 g, .bool ex, .int .i64 left, .slice a n c] 28)) 0 false 0 none 0 0
  rw [e1] at v2
  exact ⟨by rw [World.size_alloc, e1], v0.keep _, v2, ((Below.refl _ w).alloc (Nat.le_refl _) _).alloc (by rw [e1]; omega) _⟩
set_option maxRecDepth 100000 in
set_option maxHeartbeats 4000000 in
theorem mOwn (g : Int) (ex : Bool) (left : Int) (a : Option Addr) (n c : Nat) (s : List Hd) (w : World) (hx : s.length = n) (hm : n ≤ 100000) (h : Hs w a s) (hf : a = none → c = 0) :
    Calls Tryz.prog 23 #[.agg #[.int .u32 g, .bool ex, .int .i64 left, .slice a n c]] w fun e w' => OutM w e w' g ex left s := by
  have HX := Lib.hid hx
  have HH := Lib.hid h
  have HF := Lib.hid hf
  clear hx h hf
  obtain ⟨w2, hw2⟩ : ∃ w2, w2 = (w.alloc (.cells #[.int .u32 g, .bool ex, .int .i64 left, .slice a n c] 28)).alloc (.cells #[.int .u32 0, .bool false, .int .i64 0, .slice none 0 0] 28) := ⟨_, rfl⟩
  obtain ⟨hs2, v0, v1, hB2⟩ := mk2m w g ex left a n c w2 hw2
  have HB2 := Lib.hid hB2
  have V0 := Lib.hid v0
  have V1 := Lib.hid v1
  clear hs2 v0 v1 hB2
  go_enter Tryz.func23, Tryz.ntmps23
  go_wp2_with fail
  rw [← hw2]
  clear hw2
  refine (lCloneH a n c s w2 HX.out hm (HH.out.below HB2.out) HF.out).mono ?_
  rintro e w3 ⟨⟨a3, c3, rfl, ho3⟩, hb3⟩
  have H3 := Lib.hid (own_ht ho3 rfl HH.out.2)
  have V03 := Lib.hid (V0.out.below hb3 V0.out.lt)
  have V13 := Lib.hid (V1.out.below hb3 V1.out.lt)
  have HB3 := Lib.hid (HB2.out.trans (hb3.mono HB2.out.size))
  clear ho3 hb3 V0 V1 HB2
  obtain ⟨c0, c1, c2, c3', f0, f1, f2, f3⟩ := V03.out.cells
  obtain ⟨d0, d1, d2, d3, e0, e1, e2, e3⟩ := V13.out.cells
  go_wp2_with fail
  have BS3 := But1.set w3 w.heap.size 3 (.slice a3 s.length c3)
  have V1f := Lib.hid (V13.out.but BS3 (by omega))
  have H3f := Lib.hid (H3.out.other V03.out.noH BS3)
  have HBf := Lib.hid (HB3.out.trans (BS3.below (Nat.le_refl _) HB3.out.size))
  refine ret_cell1 (p := 2) rfl rfl rfl (V1f.out.store g ex left a3 s.length c3).load ?_
  have BS := V1f.out.store_but g ex left a3 s.length c3
  exact ⟨⟨a3, c3, rfl, H3f.out.other V1f.out.noH BS⟩, HBf.out.trans (BS.below (by omega) HBf.out.size)⟩
theorem vfind_not (k : Int) : ∀ (l : List MapEntry) (i : Nat), (∀ e ∈ l, ∃ x, e.key = .int .u8 x ∧ k ≠ x) → Instr.findNow (.int .u8) (.int .u8 k) l i = some none
  | [], i, _ => rfl
  | e :: l, i, h => by
    obtain ⟨x, hx, hne⟩ := h e (by simp)
    have ih := vfind_not k l (i + 1) fun e' he' => h e' (by simp [he'])
    unfold Instr.findNow
    rw [hx]
    have hb : (k == x) = false := beq_eq_false_iff_ne.2 hne
    simp [Instr.sameNow, hb, ih]
theorem vrun_ins (w : World) (B : Nat) (es : Array MapEntry) (cl : Nat) (hb : w.heap[B]? = some (.map es cl)) (k : Int) (v : Value) (hk : ∀ e ∈ es.toList, ∃ x, e.key = .int .u8 x ∧ k ≠ x) :
    ∃ w', (Instr.mapUpdate 54 (.map (some B)) (.int .u8 k) v).run Tryz.prog w = .ok () w' ∧ w'.heap[B]? = some (.map (es.push ⟨.int .u8 k, v, cl⟩) (cl + 1)) ∧ ∀ C, C ≤ B → Below C w w' := by
  have hlt : B < w.heap.size := (Array.getElem?_eq_some_iff.1 hb).1
  refine ⟨{ w with heap := w.heap.setIfInBounds B (.map (es.push ⟨.int .u8 k, v, cl⟩) (cl + 1)) }, ?_, by simp [hlt], fun C hC => ⟨rfl, rfl, rfl, by simp, fun i hi => by simp only; rw [Array.getElem?_setIfInBounds_ne (by omega)]⟩⟩
  have hf := vfind_not k es.toList 0 hk
  simp [Instr.mapUpdate, run_underlying Tryz.underlying54, MapKept.run_getObj_map hb, MapKept.run_checkKey Tryz.underlying5 (k := .int .u8 k) (by simp [MapKept.IsKey]), MapKept.run_findKey Tryz.underlying5 hf, MapKept.run_setObj_map _ hb, Result.andThen]
theorem vrun_look (w : World) (B : Nat) (es : Array MapEntry) (cl : Nat) (hb : w.heap[B]? = some (.map es cl)) (k : Int) (i : Nat) (v : Value) (hf : Instr.findNow (.int .u8) (.int .u8 k) es.toList 0 = some (some (i, v))) :
    (Instr.lookup 54 (.map (some B)) (.int .u8 k) true).run Tryz.prog w = .ok (.tuple #[v, .bool true]) w := by
  simp [Instr.lookup, run_underlying Tryz.underlying54, MapKept.run_getObj_map hb, MapKept.run_checkKey Tryz.underlying5 (k := .int .u8 k) (by simp [MapKept.IsKey]), MapKept.run_findKey Tryz.underlying5 hf, Result.andThen]
theorem vrun_look_no (w : World) (B : Nat) (es : Array MapEntry) (cl : Nat) (hb : w.heap[B]? = some (.map es cl)) (k : Int) (hf : Instr.findNow (.int .u8) (.int .u8 k) es.toList 0 = some none) :
    (Instr.lookup 54 (.map (some B)) (.int .u8 k) true).run Tryz.prog w = .ok (.tuple #[.nilFunc, .bool false]) w := by
  have hz : ∀ w : World, (zeroValue 52).run Tryz.prog w = .ok .nilFunc w := fun w => by kernel_rfl
  simp [Instr.lookup, run_underlying Tryz.underlying54, MapKept.run_getObj_map hb, MapKept.run_checkKey Tryz.underlying5 (k := .int .u8 k) (by simp [MapKept.IsKey]), MapKept.run_findKey Tryz.underlying5 hf, Result.andThen, hz]
/-- What each type does. -/
def doesM : Array MapEntry := #[⟨.int .u8 1, (.func (.func 42) #[] #[]), 0⟩, ⟨.int .u8 2, (.func (.func 43) #[] #[]), 1⟩, ⟨.int .u8 3, (.func (.func 44) #[] #[]), 2⟩, ⟨.int .u8 4, (.func (.func 45) #[] #[]), 3⟩, ⟨.int .u8 5, (.func (.func 42) #[] #[]), 4⟩, ⟨.int .u8 6, (.func (.func 46) #[] #[]), 5⟩]
theorem vlook1 {w : World} {B : Nat} (hb : w.heap[B]? = some (.map doesM 6)) : (Instr.lookup 54 (.map (some B)) (.int .u8 1) true).run Tryz.prog w = .ok (.tuple #[(.func (.func 42) #[] #[]), .bool true]) w :=
  vrun_look w B _ _ hb 1 0 _ (by simp [doesM, Instr.findNow, Instr.sameNow])
theorem vlook2 {w : World} {B : Nat} (hb : w.heap[B]? = some (.map doesM 6)) : (Instr.lookup 54 (.map (some B)) (.int .u8 2) true).run Tryz.prog w = .ok (.tuple #[(.func (.func 43) #[] #[]), .bool true]) w :=
  vrun_look w B _ _ hb 2 1 _ (by simp [doesM, Instr.findNow, Instr.sameNow])
theorem vlook3 {w : World} {B : Nat} (hb : w.heap[B]? = some (.map doesM 6)) : (Instr.lookup 54 (.map (some B)) (.int .u8 3) true).run Tryz.prog w = .ok (.tuple #[(.func (.func 44) #[] #[]), .bool true]) w :=
  vrun_look w B _ _ hb 3 2 _ (by simp [doesM, Instr.findNow, Instr.sameNow])
theorem vlook4 {w : World} {B : Nat} (hb : w.heap[B]? = some (.map doesM 6)) : (Instr.lookup 54 (.map (some B)) (.int .u8 4) true).run Tryz.prog w = .ok (.tuple #[(.func (.func 45) #[] #[]), .bool true]) w :=
  vrun_look w B _ _ hb 4 3 _ (by simp [doesM, Instr.findNow, Instr.sameNow])
theorem vlook5 {w : World} {B : Nat} (hb : w.heap[B]? = some (.map doesM 6)) : (Instr.lookup 54 (.map (some B)) (.int .u8 5) true).run Tryz.prog w = .ok (.tuple #[(.func (.func 42) #[] #[]), .bool true]) w :=
  vrun_look w B _ _ hb 5 4 _ (by simp [doesM, Instr.findNow, Instr.sameNow])
theorem vlook6 {w : World} {B : Nat} (hb : w.heap[B]? = some (.map doesM 6)) : (Instr.lookup 54 (.map (some B)) (.int .u8 6) true).run Tryz.prog w = .ok (.tuple #[(.func (.func 46) #[] #[]), .bool true]) w :=
  vrun_look w B _ _ hb 6 5 _ (by simp [doesM, Instr.findNow, Instr.sameNow])
theorem vlookNo {w : World} {B : Nat} (hb : w.heap[B]? = some (.map doesM 6)) (k : Int) (hk : k < 1 ∨ 6 < k) : (Instr.lookup 54 (.map (some B)) (.int .u8 k) true).run Tryz.prog w = .ok (.tuple #[.nilFunc, .bool false]) w := by
  refine vrun_look_no w B _ _ hb k ?_
  have h1 : (k == 1) = false := beq_eq_false_iff_ne.2 fun e => (by omega)
  have h2 : (k == 2) = false := beq_eq_false_iff_ne.2 fun e => (by omega)
  have h3 : (k == 3) = false := beq_eq_false_iff_ne.2 fun e => (by omega)
  have h4 : (k == 4) = false := beq_eq_false_iff_ne.2 fun e => (by omega)
  have h5 : (k == 5) = false := beq_eq_false_iff_ne.2 fun e => (by omega)
  have h6 : (k == 6) = false := beq_eq_false_iff_ne.2 fun e => (by omega)
  simp [doesM, Instr.findNow, Instr.sameNow, h1, h2, h3, h4, h5, h6]
set_option maxHeartbeats 1000000 in
theorem mDoes (w : World) :
    Calls Tryz.prog 22 #[] w fun e w' => e = .returned (.map (some w.heap.size)) ∧ w'.heap[w.heap.size]? = some (.map doesM 6) ∧ Below w.heap.size w w' := by
  have hmm := @run_makeMap Tryz.prog 54 w
  have m0 : (w.alloc (.map #[] 0)).heap[w.heap.size]? = some (.map #[] 0) := Go.Deep.blk_alloc_new _ _
  obtain ⟨W1, r1, m1, b1⟩ := vrun_ins (w.alloc (.map #[] 0)) w.heap.size _ _ m0 1 (.func (.func 42) #[] #[]) (by simp)
  obtain ⟨W2, r2, m2, b2⟩ := vrun_ins W1 w.heap.size _ _ m1 2 (.func (.func 43) #[] #[]) (by simp)
  obtain ⟨W3, r3, m3, b3⟩ := vrun_ins W2 w.heap.size _ _ m2 3 (.func (.func 44) #[] #[]) (by simp)
  obtain ⟨W4, r4, m4, b4⟩ := vrun_ins W3 w.heap.size _ _ m3 4 (.func (.func 45) #[] #[]) (by simp)
  obtain ⟨W5, r5, m5, b5⟩ := vrun_ins W4 w.heap.size _ _ m4 5 (.func (.func 42) #[] #[]) (by simp)
  obtain ⟨W6, r6, m6, b6⟩ := vrun_ins W5 w.heap.size _ _ m5 6 (.func (.func 46) #[] #[]) (by simp)
  have B1 := Lib.hid (((((((bel1 w _).trans (b1 _ (Nat.le_refl _))).trans (b2 _ (Nat.le_refl _))).trans (b3 _ (Nat.le_refl _))).trans (b4 _ (Nat.le_refl _))).trans (b5 _ (Nat.le_refl _))).trans (b6 _ (Nat.le_refl _)))
  have M6 := Lib.hid m6
  clear m0 m1 m2 m3 m4 m5 m6 b1 b2 b3 b4 b5 b6
  go_enter Tryz.func22, Tryz.ntmps22
  go_wp2
  go_ret
  exact ⟨rfl, M6.out, B1.out⟩
end Go.Proofs.YtllpmepmgnnoaaaGreat
