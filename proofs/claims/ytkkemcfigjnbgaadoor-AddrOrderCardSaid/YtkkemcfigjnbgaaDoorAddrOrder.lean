/- The law AddrOrder: every call returns true, and its arguments read behind the call as before it. Condition: none but the row's own (the library's three tables as the program's text lays them: the card ties them). -/
import Derived.Test.YtkkemcfigjnbgaaDoorFr
import Derived.Deep.QuietTactic
import Derived.BigQuiet
namespace Go.Proofs.YtkkemcfigjnbgaaDoor.addrOrder
set_option linter.unusedVariables false
open Go.ChangeShapes Go.WideShapes Go.ChangeAt Go.RowKit
open Go.ChangeMaps (open_string shut_string)

/-- The tests, behind names. -/
def Gr (a : Int) : Bool := decide (3758096384 ≤ a) && decide (a ≤ 4026531839)
def Lo (a : Int) : Bool := decide (3758096384 ≤ a) && decide (a ≤ 3758096639)
def As (a : Int) : Bool := decide (3758096640 ≤ a) && decide (a ≤ 4026531839)
def Ls (a b : Int) : Bool := decide (a < b)
theorem cGr (a : Int) (w : World) : Calls Tryd.prog 15 #[.int .u32 a] w fun e w' => e = .returned (.bool (Gr a)) ∧ w = w' := aIsGroup a w
theorem cLo (a : Int) (w : World) : Calls Tryd.prog 17 #[.int .u32 a] w fun e w' => e = .returned (.bool (Lo a)) ∧ w = w' := aIsLocal a w
theorem cAs (a : Int) (w : World) : Calls Tryd.prog 19 #[.int .u32 a] w fun e w' => e = .returned (.bool (As a)) ∧ w = w' := aIsAsked a w
theorem cLs (a b : Int) (w : World) : Calls Tryd.prog 21 #[.int .u32 a, .int .u32 b] w fun e w' => e = .returned (.bool (Ls a b)) ∧ w = w' := aLess a b w
theorem cLsQ (a b : Int) (w : World) : Calls Tryd.prog 21 #[.int .u32 a, .int .u32 b] w fun e w' => e = .returned (.bool (Ls a b)) ∧ w' = w := (cLs a b w).mono fun _ _ ⟨h1, h2⟩ => ⟨h1, h2.symm⟩
theorem three (a : Int) : (Lo a = true ∧ Gr a = true ∧ As a = false) ∨ (Lo a = false ∧ Gr a = true ∧ As a = true) ∨ (Lo a = false ∧ Gr a = false) := by
  unfold Lo Gr As
  simp only [Bool.and_eq_true, Bool.and_eq_false_iff, decide_eq_true_eq, decide_eq_false_iff_not]
  omega
theorem row (a b c : Int) : Ls a b = false ∨ (Ls a b = true ∧ Ls b c = false) ∨ (Ls a b = true ∧ Ls b c = true ∧ Gr a = false) ∨ (Ls a b = true ∧ Ls b c = true ∧ Gr a = true ∧ Gr c = false) ∨ (Ls a b = true ∧ Ls b c = true ∧ Gr a = true ∧ Gr c = true ∧ Gr b = true) := by
  unfold Ls Gr
  simp only [Bool.and_eq_true, Bool.and_eq_false_iff, decide_eq_true_eq, decide_eq_false_iff_not]
  omega

def bstr (a : Int) : ByteArray := ⟨((l4 a).map fun x => UInt8.ofNat x.toNat).toArray⟩
theorem conv4 (a : Int) (h0 : 0 ≤ a) (h1 : a ≤ 4294967295) (W : World) (B : Nat) (h : Bs W (some ⟨B, 0, none⟩) (l4 a)) : (convert 27 9 (.slice (some ⟨B, 0, none⟩) 4 4)).run Tryd.prog W = .ok (.string (bstr a)) W := by
  have hl : ((l4 a).map fun x => UInt8.ofNat x.toNat).length = 4 := by simp [l4]
  have h' := run_convert_bytes_back (P := Tryd.prog) W 27 9 5 ⟨B, 0, none⟩ 4 ((l4 a).map fun x => UInt8.ofNat x.toNat) Tryd.underlying27 Tryd.underlying5 Tryd.underlying9 (fun j hj => by
    rw [hl] at hj
    rcases h.1 with h2 | ⟨b, off, e, hc⟩
    · simp [l4] at h2
    · simp only [Option.some.injEq, Addr.mk.injEq, and_true] at e
      obtain ⟨rfl, rfl⟩ := e
      have hb := byt_bd h0 h1 j
      rw [Lib.add_plain, hc j hj, l4_byt a j hj]
      have e : ∀ x : Int, 0 ≤ x ∧ x ≤ 255 → Value.int .u8 x = Value.int .u8 ((UInt8.ofNat x.toNat).toNat : Int) := by
        intro x hx; congr 1; simp; omega
      match j, hj with
      | 0, _ => exact congrArg some (e _ hb)
      | 1, _ => exact congrArg some (e _ hb)
      | 2, _ => exact congrArg some (e _ hb)
      | 3, _ => exact congrArg some (e _ hb))
  rw [hl] at h'
  exact h'
theorem u8lt {x y : Int} (hx : 0 ≤ x ∧ x ≤ 255) (hy : 0 ≤ y ∧ y ≤ 255) : (decide (UInt8.ofNat x.toNat < UInt8.ofNat y.toNat) = decide (x < y)) ∧ ((UInt8.ofNat x.toNat == UInt8.ofNat y.toNat) = decide (x = y)) := by
  have ex : (UInt8.ofNat x.toNat).toNat = x.toNat := by simp; omega
  have ey : (UInt8.ofNat y.toNat).toNat = y.toNat := by simp; omega
  constructor
  · rw [decide_eq_decide, UInt8.lt_iff_toNat_lt, ex, ey]; omega
  · rw [Bool.eq_iff_iff, beq_iff_eq, decide_eq_true_eq, ← UInt8.toNat_inj, ex, ey]; omega
theorem less4 (a c : Int) (ha0 : 0 ≤ a) (ha1 : a ≤ 4294967295) (hc0 : 0 ≤ c) (hc1 : c ≤ 4294967295) : Op.bytesLess (bstr a).toList (bstr c).toList = Ls a c := by
  have ga := byt_bd ha0 ha1
  have gc := byt_bd hc0 hc1
  have e : ∀ a, (bstr a).toList = [UInt8.ofNat (byt a 0).toNat, UInt8.ofNat (byt a 1).toNat, UInt8.ofNat (byt a 2).toNat, UInt8.ofNat (byt a 3).toNat] := by
    intro a; rw [ByteArray.toList_eq]; rfl
  rw [e, e]
  simp only [Op.bytesLess]
  rw [(u8lt (ga 0) (gc 0)).1, (u8lt (ga 0) (gc 0)).2, (u8lt (ga 1) (gc 1)).1, (u8lt (ga 1) (gc 1)).2, (u8lt (ga 2) (gc 2)).1, (u8lt (ga 2) (gc 2)).2, (u8lt (ga 3) (gc 3)).1, (u8lt (ga 3) (gc 3)).2]
  unfold Ls
  rw [Bool.eq_iff_iff]
  simp only [Bool.or_eq_true, Bool.and_eq_true, decide_eq_true_eq, Bool.and_false, Bool.or_false]
  simp only [byt]
  omega

set_option maxHeartbeats 4000000 in
theorem walk (w : World) (a : Int) (ha : 0 ≤ a ∧ a ≤ 4294967295) (b : Int) (hb : 0 ≤ b ∧ b ≤ 4294967295) (c : Int) (hc : 0 ≤ c ∧ c ≤ 4294967295) (htab : Lib.TabIs Tryd.prog w "internal/strconv.uint64pow10" .u64 Lib.pow10Tab) :
    Calls Tryd.prog 6 #[.int .u32 a, .int .u32 b, .int .u32 c] w fun e w' => e = .returned (.bool true) ∧ Below w.heap.size w w' := by
  have HT := Lib.hid htab
  obtain ⟨ha0, ha1⟩ := ha
  obtain ⟨hc0, hc1⟩ := hc
  have hless := less4 a c ha0 ha1 hc0 hc1
  clear htab hb
  go_enter Tryd.func6, Tryd.ntmps6
  go_wp2_with fail
  refine (aShown _ HT.out).mono ?_
  rintro e w1 ⟨rfl, hb1⟩
  have HB1 := Lib.hid hb1
  clear hb1
  go_wp2_with fail
  refine (aBytes a w1 ha0 ha1).mono ?_
  rintro e w2 ⟨rfl, rfl⟩
  go_wp2_with fail
  refine (aBytes c _ hc0 hc1).mono ?_
  rintro e w2 ⟨rfl, rfl⟩
  have hx : Bs ((w1.alloc (bytes4 a)).alloc (bytes4 c)) (some ⟨w1.heap.size, 0, none⟩) (l4 a) := bs_below (bs_new a ha0 ha1 w1) ((Below.refl _ _).alloc (Nat.le_refl _) (bytes4 c))
  have hy : Bs ((w1.alloc (bytes4 a)).alloc (bytes4 c)) (some ⟨w1.heap.size + 1, 0, none⟩) (l4 c) := by have h := bs_new c hc0 hc1 (w1.alloc (bytes4 a)); simpa using h
  have hbel : Below w.heap.size w ((w1.alloc (bytes4 a)).alloc (bytes4 c)) := HB1.out.trans (((Below.refl _ _).alloc (Nat.le_refl _) (bytes4 a)).alloc (by simp) (bytes4 c) |>.mono HB1.out.size)
  have e2 : (w1.alloc (.cells #[.int .u8 (a / 16777216), .int .u8 (a / 65536 % 256), .int .u8 (a / 256 % 256), .int .u8 (a % 256)] 5)).alloc (.cells #[.int .u8 (c / 16777216), .int .u8 (c / 65536 % 256), .int .u8 (c / 256 % 256), .int .u8 (c % 256)] 5) = (w1.alloc (bytes4 a)).alloc (bytes4 c) := rfl
  rw [e2]
  clear e2
  generalize (w1.alloc (bytes4 a)).alloc (bytes4 c) = w2 at *
  have cx : ∀ q, (convert 27 9 (.slice (some ⟨w1.heap.size, 0, none⟩) 4 4)).run Tryd.prog (w2.drewN q) = .ok (.string (bstr a)) (w2.drewN q) := fun q => conv4 a ha0 ha1 _ _ (bs_below hx (bdrawn (Below.refl _ _) q))
  have cy : ∀ q, (convert 27 9 (.slice (some ⟨w1.heap.size + 1, 0, none⟩) 4 4)).run Tryd.prog (w2.drewN q) = .ok (.string (bstr c)) (w2.drewN q) := fun q => conv4 c hc0 hc1 _ _ (bs_below hy (bdrawn (Below.refl _ _) q))
  have HBEL := Lib.hid hbel
  clear hx hy hbel
  go_wp2_with fail
  go_quiet ((go_at_call 21; exact Calls.quiet_of_same (cLsQ a c _)))
  have HB3 := Lib.hid (bdrawn HBEL.out nq)
  generalize w2.drewN nq = w3 at *
  clear cx cy hless
  rcases three a with ⟨h1, h2, h3⟩ | ⟨h1, h2, h3⟩ | ⟨h1, h2⟩ <;> rcases row a b c with h4 | ⟨h4, h5⟩ | ⟨h4, h5, h6⟩ | ⟨h4, h5, h6, h7⟩ | ⟨h4, h5, h6, h7, h8⟩
  all_goals try (exfalso; rw [h2] at h6; cases h6; done)
  all_goals
    go_wp2_with (first
      | (go_at_call 15; refine (cGr _ _).mono ?_; rintro e w' ⟨rfl, rfl⟩)
      | (go_at_call 17; refine (cLo _ _).mono ?_; rintro e w' ⟨rfl, rfl⟩)
      | (go_at_call 19; refine (cAs _ _).mono ?_; rintro e w' ⟨rfl, rfl⟩)
      | (go_at_call 21; refine (cLs _ _ _).mono ?_; rintro e w' ⟨rfl, rfl⟩))
    go_ret
    exact ⟨rfl, HB3.out⟩

theorem contract (H : Type) (enc : TypeId × Value → H) (W : World) (base : Nat) (args : Array Value) (ds gs : List (DataW H)) (before : List MemPlace)
    (hval : ∀ (j : Nat) t v, Tryd.f6.params[j]? = some t → args[j]? = some v → Value.okWide Tryd.prog W .any base t v)
    (hW : DataW.Whole enc Tryd.prog Tryd.f6.params.toList Rows.addrOrderSpec.vars false W args.toList ds gs before) (hL : laidMetH Tryd.prog Rows.addrOrderRow.laid W) :
    Calls Tryd.prog 6 args W fun e W' => ∃ v, e = .returned v ∧ Rows.addrOrderSpec.post enc Tryd.prog Tryd.f6 false true false false W args v W' := by
  have hW' := hW
  obtain ⟨p, q, hA0, hV, rfl, hfz, hnd⟩ := hW
  have hA : DataW.TrodAll enc Tryd.prog W 0 (fun _ => true) true Tryd.f6.params.toList args.toList ds p := hA0
  rw [Tryd.params6] at hA hval
  obtain ⟨v0, vs0, d0, ds0, p0, q0, hargs, rfl, rfl, h0, r0⟩ := trodAll_cons hA
  obtain ⟨v1, vs1, d1, ds1, p1, q1, rfl, rfl, rfl, h1, r1⟩ := trodAll_cons r0
  obtain ⟨v2, vs2, d2, ds2, p2, q2, rfl, rfl, rfl, h2, r2⟩ := trodAll_cons r1
  obtain ⟨rfl, rfl, rfl⟩ := trodAll_nil r2
  obtain rfl : args = #[v0, v1, v2] := by cases args; simp_all
  obtain ⟨rfl, rfl⟩ := trodVars_none hV
  have k0 := h0
  have lt0 : ∀ x ∈ p0, x.block < W.heap.size := by obtain ⟨m, hm⟩ := k0; exact DataW.trod_lt m _ _ _ hm
  have k1 := h1
  have lt1 : ∀ x ∈ p1, x.block < W.heap.size := by obtain ⟨m, hm⟩ := k1; exact DataW.trod_lt m _ _ _ hm
  have k2 := h2
  have lt2 : ∀ x ∈ p2, x.block < W.heap.size := by obtain ⟨m, hm⟩ := k2; exact DataW.trod_lt m _ _ _ hm
  obtain ⟨a0, rfl, rfl, rfl, w0⟩ := open_int Tryd.underlying23 (hval 0 23 v0 rfl rfl) h0
  obtain ⟨a1, rfl, rfl, rfl, w1⟩ := open_int Tryd.underlying23 (hval 1 23 v1 rfl rfl) h1
  obtain ⟨a2, rfl, rfl, rfl, w2⟩ := open_int Tryd.underlying23 (hval 2 23 v2 rfl rfl) h2
  clear hA0
  refine (walk W a0 (bounds_u32 w0) a1 (bounds_u32 w1) a2 (bounds_u32 w2) (table hL)).mono fun e W' ⟨he, bel⟩ => ?_
  subst he
  exact ⟨_, rfl, _, _, _, [], _, [], hW', trodAll_mk1 (shut_bool Tryd.underlying4 _), (trodAll_cons_mk (Below.trod laidOut (by kernel_rfl) (of_decide_eq_true (by kernel_rfl)) k0 bel lt0) (trodAll_cons_mk (Below.trod laidOut (by kernel_rfl) (of_decide_eq_true (by kernel_rfl)) k1 bel lt1) (trodAll_cons_mk (Below.trod laidOut (by kernel_rfl) (of_decide_eq_true (by kernel_rfl)) k2 bel lt2) trodAll_mk0))), rfl, bel.frame _, fun h => by cases h⟩

set_option maxRecDepth 100000 in
theorem lifted (os : Os) (started : os.Started) (H : Type) (enc : TypeId × Value → H) (F : Stop.Interp) :
    ReturnsInHanded {} Tryd.checked os 6 .any ((OpenSpec.ofChange Rows.addrOrderSpec).preRow enc Tryd.prog Tryd.f6 Rows.addrOrderRow.domain false Rows.addrOrderRow.laid) (((OpenSpec.ofChange Rows.addrOrderSpec).at F).post enc Tryd.prog Tryd.f6 false true false false) := by
  obtain ⟨places, hx⟩ : ∃ places, DataW.whole enc Tryd.prog ((World.doorLaid Tryd.prog 400 os).forCall (fun _ _ => 0) ⟨#[], #[(.int .u32 0), (.int .u32 0), (.int .u32 0)], []⟩).memory Tryd.f6.params.toList Rows.addrOrderSpec.vars false (#[(.int .u32 0), (.int .u32 0), (.int .u32 0)] : Array Value).toList 8 = some ([.lit (.int .u32 0), .lit (.int .u32 0), .lit (.int .u32 0)], [], places) := ⟨[], by kernel_rfl⟩
  refine returnsInHanded_of_row (C := Tryd.checked) (s := OpenSpec.ofChange Rows.addrOrderSpec) own started (by kernel_rfl) Tryd.func6
    (witness_row_at (enc := enc) (C := Tryd.checked) false (World.doorLaid Tryd.prog 400 os) #[(.int .u32 0), (.int .u32 0), (.int .u32 0)] rfl (by kernel_rfl) (by kernel_rfl) (by kernel_rfl)
      (OpenSpec.preRow_of_cond 8 hx (by kernel_rfl) (fun k hk => by cases hk) (by kernel_rfl) (door_met os _))) ?_
  intro W base args ds gs before hval hW _ _ _ hL _ _
  exact contract H enc W base args ds gs before hval hW hL

theorem said : Rows.AddrOrderSaid :=
  OpenClaim.holds_of_cond 6 Tryd.f6 rfl rfl rfl rfl rfl rfl rfl ⟨rfl, rfl, rfl, rfl, rfl⟩ rfl rfl rfl rfl rfl (by kernel_rfl) Tryd.func6 (by kernel_rfl)
    (of_decide_eq_true (by kernel_rfl)) (by unfold Func.isWrapper; first | (rw [if_pos (by decide +kernel)]; kernel_rfl) | (rw [if_neg (by decide +kernel)]; exact ⟨rfl, rfl⟩))
    (fun os started H enc _ F => by rw [OpenClaim.pre_eq_preRow]; exact lifted os started H enc F)

theorem plain (f : FuncId) (fn : Func) (hf : Tryd.pinned.checked.prog.funcNamed "stolon/stolonlaw01.AddrOrder" = some f) (hfn : Tryd.pinned.checked.prog.funcs[f]? = some fn) :
    false = Tryd.pinned.checked.prog.looks [] ∧ ∀ (j : Nat) t, fn.params[j]? = some t → Tryd.pinned.checked.prog.wantsStandIn t = false := by
  obtain rfl : f = 6 := Option.some.inj ((show Tryd.prog.funcNamed "stolon/stolonlaw01.AddrOrder" = some 6 by kernel_rfl).symm.trans hf) |>.symm
  obtain rfl : fn = Tryd.f6 := (Option.some.inj (Tryd.func6.symm.trans hfn)).symm
  refine ⟨by kernel_rfl, fun j t ht => ?_⟩
  rw [Tryd.params6] at ht
  have ht' := Array.mem_of_getElem? ht
  simp only [Array.mem_def, List.mem_cons, List.not_mem_nil, or_false] at ht'
  rcases ht' with rfl | rfl | rfl
  · exact (show Tryd.prog.wantsStandIn 23 = false by kernel_rfl)
  · exact (show Tryd.prog.wantsStandIn 23 = false by kernel_rfl)
  · exact (show Tryd.prog.wantsStandIn 23 = false by kernel_rfl)

theorem card : Rows.AddrOrderCardSaid :=
  Claim7.holds_tied_plain_at .later [] _ _ _ _ said (fun _ h => by cases h) (by kernel_rfl) (fun _ h => by cases h) addrOrder_row_tie rfl ⟨rfl, rfl⟩ (by kernel_rfl) rfl plain (by kernel_rfl)
#print axioms card
end Go.Proofs.YtkkemcfigjnbgaaDoor.addrOrder
