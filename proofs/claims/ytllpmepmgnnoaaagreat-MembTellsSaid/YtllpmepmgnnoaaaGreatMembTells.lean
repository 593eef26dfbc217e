/- The law MembTells: every call returns true, and its arguments read behind the call as before it. Condition: none but the row's own. -/
import Derived.Test.YtllpmepmgnnoaaaGreatZc
import Derived.Test.YtllpmepmgnnoaaaGreatRk
import Derived.Test.YtllpmepmgnnoaaaGreatVt
import Derived.Test.YtllpmepmgnnoaaaGreatVs
import Derived.Test.YtllpmepmgnnoaaaGreatVu
namespace Go.Proofs.YtllpmepmgnnoaaaGreat.membTells
set_option linter.unusedVariables false
open Go.ChangeShapes Go.WideShapes Go.ChangeAt Go.RowKit
open Go.ChangeMaps (open_string shut_string)

def TC (w : World) (X : Nat) (kp la : Int) : Prop := w.cell? ⟨X, 0, none⟩ = some (.int .i64 kp) ∧ w.cell? ⟨X, 1, none⟩ = some (.int .i64 la)
theorem TC.below {w w' : World} {X : Nat} {kp la : Int} (h : TC w X kp la) (hb : Below w.heap.size w w') : TC w' X kp la := ⟨(hb.cell (cell_lt h.1)).trans h.1, (hb.cell (cell_lt h.2)).trans h.2⟩
def taV (kp la g : Int) (ex : Bool) (left : Int) (a : Option Addr) (n c : Nat) (g2 : Int) (ex2 : Bool) (left2 : Int) (a2 : Option Addr) (n2 c2 : Nat) (mm rr sm : Bool) : Nat → Value → List Value → World → Prop
  | 0, v, _, _ => v = .agg #[.int .i64 kp, .int .i64 la]
  | 1, v, _, _ => v = .bool mm
  | 2, v, _, _ => v = .agg #[.int .i64 kp, .int .i64 la]
  | 3, v, _, _ => v = .bool mm
  | 4, v, _, _ => v = .bool false
  | 5, v, _, _ => v = .bool false
  | 6, v, _, _ => v = .agg #[.int .u32 g, .bool ex, .int .i64 left, .slice a n c]
  | 7, v, _, _ => v = .bool rr
  | 8, v, _, _ => v = .bool rr
  | 9, v, _, _ => v = .bool false
  | 10, v, _, _ => v = .bool false
  | 11, v, _, _ => v = .bool false
  | 12, v, _, _ => v = .agg #[.int .u32 g, .bool ex, .int .i64 left, .slice a n c]
  | 13, v, _, _ => v = .agg #[.int .u32 g2, .bool ex2, .int .i64 left2, .slice a2 n2 c2]
  | 14, v, _, _ => v = .bool sm
  | 15, v, _, _ => v = .agg #[.int .u32 g, .bool ex, .int .i64 left, .slice a n c]
  | 16, v, _, _ => v = .agg #[.int .u32 g2, .bool ex2, .int .i64 left2, .slice a2 n2 c2]
  | 17, v, _, _ => v = .bool sm
  | 18, v, _, _ => v = .bool false
  | 19, v, _, _ => v = .bool false
  | _, _, _, _ => True
def taD : Nat → List Nat
  | 1 => [0]
  | 3 => [2]
  | 4 => [1, 3]
  | 5 => [4]
  | 6 => [5]
  | 7 => [6, 5]
  | 8 => [5]
  | 9 => [7, 8, 5]
  | 10 => [5, 9]
  | 11 => [10]
  | 12 => [11]
  | 13 => [11]
  | 14 => [12, 13, 11]
  | 15 => [11]
  | 16 => [11]
  | 17 => [15, 16, 11]
  | 18 => [14, 17, 11]
  | 19 => [11, 18]
  | _ => []
theorem ta_st (kp la g : Int) (ex : Bool) (left : Int) (a : Option Addr) (n c : Nat) (g2 : Int) (ex2 : Bool) (left2 : Int) (a2 : Option Addr) (n2 c2 : Nat) (mm rr sm : Bool) {i : Nat} {v : Value} {us : List Value} {w w' : World}  (hr : Below w.heap.size w w') (hv : taV kp la g ex left a n c g2 ex2 left2 a2 n2 c2 mm rr sm i v us w) : taV kp la g ex left a n c g2 ex2 left2 a2 n2 c2 mm rr sm i v us w' := by
  unfold taV at hv ⊢
  split at hv
  all_goals first
    | exact hv
def tbV (g : Int) (ex : Bool) (left : Int) (a : Option Addr) (n c : Nat) (x t : Int) (wv sv E : Bool) (L : Int) (l3 : List Hd) : Nat → Value → List Value → World → Prop
  | 0, v, _, _ => v = .bool true
  | 1, v, _, _ => v = .bool true
  | 2, v, _, _ => v = .agg #[.int .u32 g, .bool ex, .int .i64 left, .slice a n c]
  | 3, v, _, _ => v = .int .u32 x
  | 4, v, _, _ => v = .bool wv
  | 5, v, _, _ => v = .agg #[.int .u32 g, .bool ex, .int .i64 left, .slice a n c]
  | 6, v, _, _ => v = .int .u32 x
  | 7, v, _, _ => v = .bool wv
  | 8, v, _, _ => v = .bool true
  | 9, v, _, _ => v = .bool true
  | 10, v, _, _ => v = .bool true
  | 11, v, _, _ => v = .agg #[.int .u32 g, .bool ex, .int .i64 left, .slice a n c]
  | 12, v, _, _ => v = .bool sv
  | 13, v, _, _ => v = .agg #[.int .u32 g, .bool ex, .int .i64 left, .slice a n c]
  | 14, v, _, _ => v = .bool sv
  | 15, v, _, _ => v = .bool true
  | 16, v, _, _ => v = .bool true
  | 17, v, _, _ => v = .bool true
  | 18, v, _, _ => v = .agg #[.int .u32 g, .bool ex, .int .i64 left, .slice a n c]
  | 19, v, _, _ => v = .int .i64 t
  | 20, v, _, w => ∃ (a20 : Option Addr) (c20 : Nat), v = .agg #[.int .u32 g, .bool E, .int .i64 L, .slice a20 l3.length c20] ∧ Hs w a20 l3
  | 21, v, _, _ => v = .agg #[.int .u32 g, .bool ex, .int .i64 left, .slice a n c]
  | 22, v, _, _ => v = .int .i64 t
  | 23, v, _, w => ∃ (a23 : Option Addr) (c23 : Nat), v = .agg #[.int .u32 g, .bool E, .int .i64 L, .slice a23 l3.length c23] ∧ Hs w a23 l3
  | 24, v, _, _ => v = .bool true
  | 25, v, _, _ => v = .bool true
  | 26, v, _, _ => v = .bool true
  | _, _, _, _ => True
def tbD : Nat → List Nat
  | 1 => [0]
  | 2 => [1]
  | 3 => [1]
  | 4 => [2, 3, 1]
  | 5 => [1]
  | 6 => [1]
  | 7 => [5, 6, 1]
  | 8 => [4, 7, 1]
  | 9 => [1, 8]
  | 10 => [9]
  | 11 => [10]
  | 12 => [11, 10]
  | 13 => [10]
  | 14 => [13, 10]
  | 15 => [12, 14, 10]
  | 16 => [10, 15]
  | 17 => [16]
  | 18 => [17]
  | 19 => [17]
  | 20 => [18, 19, 17]
  | 21 => [17]
  | 22 => [17]
  | 23 => [21, 22, 17]
  | 24 => [20, 23, 17]
  | 25 => [17, 24]
  | 26 => [25]
  | _ => []
theorem tb_st (g : Int) (ex : Bool) (left : Int) (a : Option Addr) (n c : Nat) (x t : Int) (wv sv E : Bool) (L : Int) (l3 : List Hd) {i : Nat} {v : Value} {us : List Value} {w w' : World}  (hr : Below w.heap.size w w') (hv : tbV g ex left a n c x t wv sv E L l3 i v us w) : tbV g ex left a n c x t wv sv E L l3 i v us w' := by
  unfold tbV at hv ⊢
  split at hv
  all_goals first
    | exact hv
    | (obtain ⟨a20, c20, e, h20⟩ := hv; exact ⟨a20, c20, e, h20.below hr⟩)
    | (obtain ⟨a23, c23, e, h23⟩ := hv; exact ⟨a23, c23, e, h23.below hr⟩)
theorem mkLawT (w : World) (cs : Array Value) (T : TypeId) (kp la g : Int) (ex : Bool) (left : Int) (a : Option Addr) (n c : Nat) (g2 : Int) (ex2 : Bool) (left2 : Int) (a2 : Option Addr) (n2 c2 : Nat) (W : World)
    (hW : W = (((w.alloc (.cells cs T)).alloc (.cells #[.int .i64 kp, .int .i64 la] 23)).alloc (.cells #[.int .u32 g, .bool ex, .int .i64 left, .slice a n c] 28)).alloc (.cells #[.int .u32 g2, .bool ex2, .int .i64 left2, .slice a2 n2 c2] 28)) :
    TC W (w.heap.size + 1) kp la ∧ MV W (w.heap.size + 2) g ex left a n c ∧ MV W (w.heap.size + 3) g2 ex2 left2 a2 n2 c2 ∧ Below w.heap.size w W := by
  subst hW
  have e1 : (w.alloc (.cells cs T)).heap.size = w.heap.size + 1 := World.size_alloc _ _
  have e2 : ((w.alloc (.cells cs T)).alloc (.cells #[.int .i64 kp, .int .i64 la] 23)).heap.size = w.heap.size + 2 := by rw [World.size_alloc, e1]
  have e3 : (((w.alloc (.cells cs T)).alloc (.cells #[.int .i64 kp, .int .i64 la] 23)).alloc (.cells #[.int .u32 g, .bool ex, .int .i64 left, .slice a n c] 28)).heap.size = w.heap.size + 3 := by rw [World.size_alloc, e2]
  have l0 := v_blk (v_blk (Go.Deep.blk_alloc_new (w.alloc (.cells cs T)) (.cells #[.int .i64 kp, .int .i64 la] 23)) (.cells #[.int .u32 g, .bool ex, .int .i64 left, .slice a n c] 28)) (.cells #[.int .u32 g2, .bool ex2, .int .i64 left2, .slice a2 n2 c2] 28)
  rw [e1] at l0
  have v0 := MV.new ((w.alloc (.cells cs T)).alloc (.cells #[.int .i64 kp, .int .i64 la] 23)) g ex left a n c
  rw [e2] at v0
  have v1 := MV.new (((w.alloc (.cells cs T)).alloc (.cells #[.int .i64 kp, .int .i64 la] 23)).alloc (.cells #[.int .u32 g, .bool ex, .int .i64 left, .slice a n c] 28)) g2 ex2 left2 a2 n2 c2
  rw [e3] at v1
  exact ⟨⟨by simp only [World.cell?, l0]; rfl, by simp only [World.cell?, l0]; rfl⟩, v0.keep _, v1, ((((Below.refl _ w).alloc (Nat.le_refl _) _).alloc (by rw [e1]; omega) _).alloc (by rw [e2]; omega) _).alloc (by rw [e3]; omega) _⟩
set_option linter.unusedSimpArgs false in
set_option maxRecDepth 100000 in
set_option maxHeartbeats 16000000 in
theorem walk (w : World) (kp la g : Int) (ex : Bool) (left : Int) (a : Option Addr) (c : Nat) (s : List Hd) (g2 : Int) (ex2 : Bool) (left2 : Int) (a2 : Option Addr) (c2 : Nat) (s2 : List Hd) (x t : Int) (hs : Hs w a s) (hn : List.length s ≤ 1125899906842624) (hnil : a = none → c = 0) (hg : 0 ≤ g ∧ g ≤ 4294967295) (hs2 : Hs w a2 s2) (hn2 : List.length s2 ≤ 1125899906842624) (ht : -9223372036854775808 ≤ t ∧ t ≤ 9223372036854775807) :
    Calls Tryz.prog 4 #[.agg #[.int .i64 kp, .int .i64 la, .int .u32 g, .bool ex, .int .i64 left, .slice a (List.length s) c, .int .u32 g2, .bool ex2, .int .i64 left2, .slice a2 (List.length s2) c2, .int .u32 x, .int .i64 t]] w fun e w' => e = .returned (.bool true) ∧ Below w.heap.size w w' := by
  obtain ⟨n, hn1⟩ : ∃ n, s.length = n := ⟨_, rfl⟩
  obtain ⟨n2, hn3⟩ : ∃ n, s2.length = n := ⟨_, rfl⟩
  rw [hn1] at hn ⊢
  rw [hn3] at hn2 ⊢
  have HX := Lib.hid hn1
  have HX2 := Lib.hid hn3
  have HTT := Lib.hid ht
  obtain ⟨w1, hw1⟩ : ∃ w1, w1 = (((w.alloc (.cells #[.int .i64 kp, .int .i64 la, .int .u32 g, .bool ex, .int .i64 left, .slice a n c, .int .u32 g2, .bool ex2, .int .i64 left2, .slice a2 n2 c2, .int .u32 x, .int .i64 t] 45)).alloc (.cells #[.int .i64 kp, .int .i64 la] 23)).alloc (.cells #[.int .u32 g, .bool ex, .int .i64 left, .slice a n c] 28)).alloc (.cells #[.int .u32 g2, .bool ex2, .int .i64 left2, .slice a2 n2 c2] 28) := ⟨_, rfl⟩
  obtain ⟨tc, mv, mv2, hb⟩ := mkLawT w _ _ kp la g ex left a n c g2 ex2 left2 a2 n2 c2 w1 hw1
  have BB := Lib.hid hb
  have TT := Lib.hid tc
  have VM := Lib.hid mv
  have VN := Lib.hid mv2
  have SM := Lib.hid (hs.below hb)
  have SN := Lib.hid (hs2.below hb)
  clear hn1 hn3 hnil hg tc mv mv2 hb hs hs2 ht
  go_enter Tryz.func4, Tryz.ntmps4
  go_wp2_with fail
  rw [← hw1]
  clear hw1
  refine (mShown w1).mono ?_
  rintro e w101 ⟨rfl, hb⟩
  have BB := Lib.hid (BB.out.trans (hb.mono BB.out.size))
  have SM := Lib.hid (SM.out.below hb)
  have SN := Lib.hid (SN.out.below hb)
  have TT := Lib.hid (TT.out.below hb)
  have VM := Lib.hid (VM.out.below hb VM.out.lt)
  have VN := Lib.hid (VN.out.below hb VN.out.lt)
  clear hb
  by_cases q3 : n + n2 ≤ 200
  · have q3' : decide ((200 : Int) < (n : Int) + (n2 : Int)) = false := decide_eq_false (by omega)
    obtain ⟨TT0, TT1⟩ := TT.out
    obtain ⟨VM0, VM1, VM2, VM3, -⟩ := VM.out.cells
    obtain ⟨VN0, VN1, VN2, VN3, -⟩ := VN.out.cells
    go_wp2_with fail
    refine (rRight8 g ex left a n c s _ HX.out SM.out (by omega)).mono ?_
    rintro e w102 ⟨rfl, hb⟩
    clear TT0 TT1 VM0 VM1 VM2 VM3 VN0 VN1 VN2 VN3
    have BB := Lib.hid (BB.out.trans (hb.mono BB.out.size))
    have SM := Lib.hid (SM.out.below hb)
    have SN := Lib.hid (SN.out.below hb)
    have TT := Lib.hid (TT.out.below hb)
    have VM := Lib.hid (VM.out.below hb VM.out.lt)
    have VN := Lib.hid (VN.out.below hb VN.out.lt)
    clear hb
    obtain ⟨rr, hrr⟩ : ∃ r, decide (okM g ex left s) = r := ⟨_, rfl⟩
    rw [hrr]
    have HRR := Lib.hid hrr
    obtain ⟨mm, hmm⟩ : ∃ r, decide (mayP kp la) = r := ⟨_, rfl⟩
    have HMM := Lib.hid hmm
    obtain ⟨sm, hsm⟩ : ∃ r, decide (g = g2 ∧ ex = ex2 ∧ left = left2 ∧ s = s2) = r := ⟨_, rfl⟩
    have HSM := Lib.hid hsm
    clear hrr hmm hsm
    obtain ⟨TT0, TT1⟩ := TT.out
    obtain ⟨VM0, VM1, VM2, VM3, -⟩ := VM.out.cells
    obtain ⟨VN0, VN1, VN2, VN3, -⟩ := VN.out.cells
    go_wp2_with fail
    clear TT0 TT1 VM0 VM1 VM2 VM3 VN0 VN1 VN2 VN3
    refine wp_region_each3 (taV kp la g ex left a n c g2 ex2 left2 a2 n2 c2 mm rr sm) (fun W => Below w102.heap.size w102 W) (fun _ A B => Below A.heap.size A B) taD [32, 33, 34, 35, 36, 37, 38, 39, 40, 41, 42, 43, 44, 45, 46, 47, 48, 49, 50, 51] (by kernel_rfl) (by kernel_rfl) (by kernel_rfl) (Below.refl _ w102).drew
      (fun i j oi oj v us A B hoi hoj hij hw hSA hr hv => ta_st _ _ _ _ _ _ _ _ _ _ _ _ _ _ _ _ _ hr hv) ?hgd
      ⟨?_, ?_, ?_, ?_, ?_, ?_, ?_, ?_, ?_, ?_, ?_, ?_, ?_, ?_, ?_, ?_, ?_, ?_, ?_, ?_, trivial⟩ ?hend
    case hgd =>
      intro i o g b hoi hog v us w hv
      have hi : i < 20 := (Array.getElem?_eq_some_iff.1 hoi).1
      have hc : i = 0 ∨ i = 1 ∨ i = 2 ∨ i = 3 ∨ i = 4 ∨ i = 5 ∨ i = 6 ∨ i = 7 ∨ i = 8 ∨ i = 9 ∨ i = 10 ∨ i = 11 ∨ i = 12 ∨ i = 13 ∨ i = 14 ∨ i = 15 ∨ i = 16 ∨ i = 17 ∨ i = 18 ∨ i = 19 := by omega
      rcases hc with rfl | rfl | rfl | rfl | rfl | rfl | rfl | rfl | rfl | rfl | rfl | rfl | rfl | rfl | rfl | rfl | rfl | rfl | rfl | rfl
      · cases hoi; cases hog
      · cases hoi; cases hog
      · cases hoi; cases hog
      · cases hoi; cases hog
      · cases hoi; cases hog
      · cases hoi; cases hog
      · cases hoi; cases hog; exact hv
      · cases hoi; cases hog; exact hv
      · cases hoi; cases hog; exact hv
      · cases hoi; cases hog; exact hv
      · cases hoi; cases hog
      · cases hoi; cases hog
      · cases hoi; cases hog; exact hv
      · cases hoi; cases hog; exact hv
      · cases hoi; cases hog; exact hv
      · cases hoi; cases hog; exact hv
      · cases hoi; cases hog; exact hv
      · cases hoi; cases hog; exact hv
      · cases hoi; cases hog; exact hv
      · cases hoi; cases hog
    case refine_1 =>
      intro a' w9 hS h0 hd
      have e3 : a'.tmps[3]?.getD undef = .pointer (some ⟨w.heap.size + 1, 0, none⟩) := vev (h0 3 (by kernel_rfl))
      obtain ⟨y0, y1⟩ := TT.out.below hS
      refine Does2.value (.agg #[.int .i64 kp, .int .i64 la]) (w' := w9) ?_ ⟨rfl, hS, Below.refl _ _⟩
      clear hS h0 hd
      go_simp
    case refine_2 =>
      intro a' w9 hS h0 hd
      have e32 : a'.tmps[32]?.getD undef = .agg #[.int .i64 kp, .int .i64 la] := vev (hd 0 List.mem_cons_self)
      refine Does2.call 12 #[.agg #[.int .i64 kp, .int .i64 la]] (w' := w9) ?_ ((mMay kp la w9).mono ?_)
      · clear hS h0 hd
        go_simp
      · rw [HMM.out]
        rintro e w8 ⟨rfl, hb⟩
        exact ⟨_, rfl, rfl, hS.trans (hb.mono hS.size), hb⟩
    case refine_3 =>
      intro a' w9 hS h0 hd
      have e3 : a'.tmps[3]?.getD undef = .pointer (some ⟨w.heap.size + 1, 0, none⟩) := vev (h0 3 (by kernel_rfl))
      obtain ⟨y0, y1⟩ := TT.out.below hS
      refine Does2.value (.agg #[.int .i64 kp, .int .i64 la]) (w' := w9) ?_ ⟨rfl, hS, Below.refl _ _⟩
      clear hS h0 hd
      go_simp
    case refine_4 =>
      intro a' w9 hS h0 hd
      have e34 : a'.tmps[34]?.getD undef = .agg #[.int .i64 kp, .int .i64 la] := vev (hd 2 List.mem_cons_self)
      refine Does2.call 6 #[.agg #[.int .i64 kp, .int .i64 la]] (w' := w9) ?_ ((rMay8 kp la w9).mono ?_)
      · clear hS h0 hd
        go_simp
      · rw [HMM.out]
        rintro e w8 ⟨rfl, hb⟩
        exact ⟨_, rfl, rfl, hS.trans (hb.mono hS.size), hb⟩
    case refine_5 =>
      intro a' w9 hS h0 hd
      have e33 : a'.tmps[33]?.getD undef = .bool mm := vev (hd 1 List.mem_cons_self)
      have e35 : a'.tmps[35]?.getD undef = .bool mm := vev (hd 3 (List.mem_cons_of_mem _ List.mem_cons_self))
      have zz : (mm != mm) = false := by cases mm <;> rfl
      refine Does2.value (.bool false) (w' := w9) ?_ ⟨rfl, hS, Below.refl _ _⟩
      clear hS h0 hd
      go_simp
    case refine_6 =>
      intro a' w9 hS h0 hd
      have e36 : a'.tmps[36]?.getD undef = .bool false := vev (hd 4 List.mem_cons_self)
      refine Does2.value (.bool false) (w' := w9) ?_ ⟨rfl, hS, Below.refl _ _⟩
      clear hS h0 hd
      go_simp
    case refine_7 =>
      intro a' w9 hS h0 hd
      have e4 : a'.tmps[4]?.getD undef = .pointer (some ⟨w.heap.size + 2, 0, none⟩) := vev (h0 4 (by kernel_rfl))
      obtain ⟨y0, y1, y2, y3, -⟩ := (VM.out.below hS VM.out.lt).cells
      refine Does2.value (.agg #[.int .u32 g, .bool ex, .int .i64 left, .slice a n c]) (w' := w9) ?_ ⟨rfl, hS, Below.refl _ _⟩
      clear hS h0 hd
      go_simp
    case refine_8 =>
      intro a' w9 hS h0 hd
      have e38 : a'.tmps[38]?.getD undef = .agg #[.int .u32 g, .bool ex, .int .i64 left, .slice a n c] := vev (hd 6 List.mem_cons_self)
      refine Does2.call 13 #[.agg #[.int .u32 g, .bool ex, .int .i64 left, .slice a n c]] (w' := w9) ?_ ((zRight g ex left a n c s w9 HX.out (by omega) (SM.out.below hS)).mono ?_)
      · clear hS h0 hd
        go_simp
      · rw [HRR.out]
        rintro e w8 ⟨rfl, hb⟩
        exact ⟨_, rfl, rfl, hS.trans (hb.mono hS.size), hb⟩
    case refine_9 =>
      intro a' w9 hS h0 hd
      have e9 : a'.tmps[9]?.getD undef = .bool rr := vev (h0 9 (by kernel_rfl))
      refine Does2.value (.bool rr) (w' := w9) ?_ ⟨rfl, hS, Below.refl _ _⟩
      clear hS h0 hd
      go_simp
    case refine_10 =>
      intro a' w9 hS h0 hd
      have e39 : a'.tmps[39]?.getD undef = .bool rr := vev (hd 7 List.mem_cons_self)
      have e40 : a'.tmps[40]?.getD undef = .bool rr := vev (hd 8 (List.mem_cons_of_mem _ List.mem_cons_self))
      have zz : (rr != rr) = false := by cases rr <;> rfl
      refine Does2.value (.bool false) (w' := w9) ?_ ⟨rfl, hS, Below.refl _ _⟩
      clear hS h0 hd
      go_simp
    case refine_11 =>
      intro a' w9 hS h0 hd
      have e37 : a'.tmps[37]?.getD undef = .bool false := vev (hd 5 List.mem_cons_self)
      have e41 : a'.tmps[41]?.getD undef = .bool false := vev (hd 9 (List.mem_cons_of_mem _ List.mem_cons_self))
      refine Does2.value (.bool false) (w' := w9) ?_ ⟨rfl, hS, Below.refl _ _⟩
      clear hS h0 hd
      go_simp
    case refine_12 =>
      intro a' w9 hS h0 hd
      have e42 : a'.tmps[42]?.getD undef = .bool false := vev (hd 10 List.mem_cons_self)
      refine Does2.value (.bool false) (w' := w9) ?_ ⟨rfl, hS, Below.refl _ _⟩
      clear hS h0 hd
      go_simp
    case refine_13 =>
      intro a' w9 hS h0 hd
      have e4 : a'.tmps[4]?.getD undef = .pointer (some ⟨w.heap.size + 2, 0, none⟩) := vev (h0 4 (by kernel_rfl))
      obtain ⟨y0, y1, y2, y3, -⟩ := (VM.out.below hS VM.out.lt).cells
      refine Does2.value (.agg #[.int .u32 g, .bool ex, .int .i64 left, .slice a n c]) (w' := w9) ?_ ⟨rfl, hS, Below.refl _ _⟩
      clear hS h0 hd
      go_simp
    case refine_14 =>
      intro a' w9 hS h0 hd
      have e5 : a'.tmps[5]?.getD undef = .pointer (some ⟨w.heap.size + 3, 0, none⟩) := vev (h0 5 (by kernel_rfl))
      obtain ⟨y0, y1, y2, y3, -⟩ := (VN.out.below hS VN.out.lt).cells
      refine Does2.value (.agg #[.int .u32 g2, .bool ex2, .int .i64 left2, .slice a2 n2 c2]) (w' := w9) ?_ ⟨rfl, hS, Below.refl _ _⟩
      clear hS h0 hd
      go_simp
    case refine_15 =>
      intro a' w9 hS h0 hd
      have e44 : a'.tmps[44]?.getD undef = .agg #[.int .u32 g, .bool ex, .int .i64 left, .slice a n c] := vev (hd 12 List.mem_cons_self)
      have e45 : a'.tmps[45]?.getD undef = .agg #[.int .u32 g2, .bool ex2, .int .i64 left2, .slice a2 n2 c2] := vev (hd 13 (List.mem_cons_of_mem _ List.mem_cons_self))
      refine Does2.call 14 #[.agg #[.int .u32 g, .bool ex, .int .i64 left, .slice a n c], .agg #[.int .u32 g2, .bool ex2, .int .i64 left2, .slice a2 n2 c2]] (w' := w9) ?_ ((zSame g ex left a n c s g2 ex2 left2 a2 n2 c2 s2 w9 HX.out HX2.out (by omega) (SM.out.below hS) (SN.out.below hS)).mono ?_)
      · clear hS h0 hd
        go_simp
      · rw [HSM.out]
        rintro e w8 ⟨rfl, hb⟩
        exact ⟨_, rfl, rfl, hS.trans (hb.mono hS.size), hb⟩
    case refine_16 =>
      intro a' w9 hS h0 hd
      have e4 : a'.tmps[4]?.getD undef = .pointer (some ⟨w.heap.size + 2, 0, none⟩) := vev (h0 4 (by kernel_rfl))
      obtain ⟨y0, y1, y2, y3, -⟩ := (VM.out.below hS VM.out.lt).cells
      refine Does2.value (.agg #[.int .u32 g, .bool ex, .int .i64 left, .slice a n c]) (w' := w9) ?_ ⟨rfl, hS, Below.refl _ _⟩
      clear hS h0 hd
      go_simp
    case refine_17 =>
      intro a' w9 hS h0 hd
      have e5 : a'.tmps[5]?.getD undef = .pointer (some ⟨w.heap.size + 3, 0, none⟩) := vev (h0 5 (by kernel_rfl))
      obtain ⟨y0, y1, y2, y3, -⟩ := (VN.out.below hS VN.out.lt).cells
      refine Does2.value (.agg #[.int .u32 g2, .bool ex2, .int .i64 left2, .slice a2 n2 c2]) (w' := w9) ?_ ⟨rfl, hS, Below.refl _ _⟩
      clear hS h0 hd
      go_simp
    case refine_18 =>
      intro a' w9 hS h0 hd
      have e47 : a'.tmps[47]?.getD undef = .agg #[.int .u32 g, .bool ex, .int .i64 left, .slice a n c] := vev (hd 15 List.mem_cons_self)
      have e48 : a'.tmps[48]?.getD undef = .agg #[.int .u32 g2, .bool ex2, .int .i64 left2, .slice a2 n2 c2] := vev (hd 16 (List.mem_cons_of_mem _ List.mem_cons_self))
      refine Does2.call 10 #[.agg #[.int .u32 g, .bool ex, .int .i64 left, .slice a n c], .agg #[.int .u32 g2, .bool ex2, .int .i64 left2, .slice a2 n2 c2]] (w' := w9) ?_ ((rSame8 g ex left a n c s g2 ex2 left2 a2 n2 c2 s2 w9 HX.out HX2.out (by omega) (by omega) (SM.out.below hS) (SN.out.below hS)).mono ?_)
      · clear hS h0 hd
        go_simp
      · rw [HSM.out]
        rintro e w8 ⟨rfl, hb⟩
        exact ⟨_, rfl, rfl, hS.trans (hb.mono hS.size), hb⟩
    case refine_19 =>
      intro a' w9 hS h0 hd
      have e46 : a'.tmps[46]?.getD undef = .bool sm := vev (hd 14 List.mem_cons_self)
      have e49 : a'.tmps[49]?.getD undef = .bool sm := vev (hd 17 (List.mem_cons_of_mem _ List.mem_cons_self))
      have zz : (sm != sm) = false := by cases sm <;> rfl
      refine Does2.value (.bool false) (w' := w9) ?_ ⟨rfl, hS, Below.refl _ _⟩
      clear hS h0 hd
      go_simp
    case refine_20 =>
      intro a' w9 hS h0 hd
      have e43 : a'.tmps[43]?.getD undef = .bool false := vev (hd 11 List.mem_cons_self)
      have e50 : a'.tmps[50]?.getD undef = .bool false := vev (hd 18 (List.mem_cons_of_mem _ List.mem_cons_self))
      refine Does2.value (.bool false) (w' := w9) ?_ ⟨rfl, hS, Below.refl _ _⟩
      clear hS h0 hd
      go_simp
    case hend =>
      intro fta wta hS hv
      have v51 := hv 19 (by decide)
      replace v51 : fta 51 = .bool false := v51
      simp only [putAll, Act.put, List.setIfInBounds_toArray, List.set_cons_zero, List.set_cons_succ, v51]
      have BB := Lib.hid (BB.out.trans (hS.mono BB.out.size))
      have SM := Lib.hid (SM.out.below hS)
      have SN := Lib.hid (SN.out.below hS)
      have TT := Lib.hid (TT.out.below hS)
      have VM := Lib.hid (VM.out.below hS VM.out.lt)
      have VN := Lib.hid (VN.out.below hS VN.out.lt)
      clear hS hv v51
      cases rr
      · go_wp2_with fail
        go_ret
        exact ⟨rfl, BB.out⟩
      · have OK := Lib.hid (of_decide_eq_true HRR.out)
        have hn64 : n ≤ 64 := by have := OK.out.2.1; rw [HX.out] at this; exact this
        obtain ⟨wv, hwv⟩ : ∃ r, wantsP ex s x = r := ⟨_, rfl⟩
        have HWV : Hid (wantsP ex s x = wv ∧ wantsR ex s x = wv) := Lib.hid ⟨hwv, (wantsR_eq OK.out x).trans hwv⟩
        obtain ⟨sv, hsv⟩ : ∃ r, (ex || decide (0 < n)) = r := ⟨_, rfl⟩
        have HSV := Lib.hid hsv
        obtain ⟨E, hE⟩ : ∃ r, tkE ex left (max t 0) = r := ⟨_, rfl⟩
        obtain ⟨L, hL⟩ : ∃ r, max (left - max t 0) 0 = r := ⟨_, rfl⟩
        obtain ⟨l3, hl3⟩ : ∃ r, tkS ex left s (max t 0) = r := ⟨_, rfl⟩
        have HTK : Hid (tkE ex left (max t 0) = E ∧ max (left - max t 0) 0 = L ∧ tkS ex left s (max t 0) = l3 ∧ l3.length ≤ 64) := Lib.hid ⟨hE, hL, hl3, by rw [← hl3]; exact Nat.le_trans (tkS_len _ _ _ _) (by rw [HX.out]; exact hn64)⟩
        clear hwv hsv hE hL hl3
        go_wp2_with fail
        refine wp_region_each3 (tbV g ex left a n c x t wv sv E L l3) (fun W => Below wta.heap.size wta W) (fun _ A B => Below A.heap.size A B) tbD [55, 56, 57, 58, 59, 60, 61, 62, 63, 64, 65, 66, 67, 68, 69, 70, 71, 72, 73, 74, 75, 76, 77, 78, 79, 80, 2] (by kernel_rfl) (by kernel_rfl) (by kernel_rfl) (Below.refl _ wta).drew
          (fun i j oi oj v us A B hoi hoj hij hw hSA hr hv => tb_st _ _ _ _ _ _ _ _ _ _ _ _ _ hr hv) ?hgd
          ⟨?_, ?_, ?_, ?_, ?_, ?_, ?_, ?_, ?_, ?_, ?_, ?_, ?_, ?_, ?_, ?_, ?_, ?_, ?_, ?_, ?_, ?_, ?_, ?_, ?_, ?_, ?_, trivial⟩ ?hend
        case hgd =>
          intro i o g b hoi hog v us w hv
          have hi : i < 27 := (Array.getElem?_eq_some_iff.1 hoi).1
          have hc : i = 0 ∨ i = 1 ∨ i = 2 ∨ i = 3 ∨ i = 4 ∨ i = 5 ∨ i = 6 ∨ i = 7 ∨ i = 8 ∨ i = 9 ∨ i = 10 ∨ i = 11 ∨ i = 12 ∨ i = 13 ∨ i = 14 ∨ i = 15 ∨ i = 16 ∨ i = 17 ∨ i = 18 ∨ i = 19 ∨ i = 20 ∨ i = 21 ∨ i = 22 ∨ i = 23 ∨ i = 24 ∨ i = 25 ∨ i = 26 := by omega
          rcases hc with rfl | rfl | rfl | rfl | rfl | rfl | rfl | rfl | rfl | rfl | rfl | rfl | rfl | rfl | rfl | rfl | rfl | rfl | rfl | rfl | rfl | rfl | rfl | rfl | rfl | rfl | rfl
          · cases hoi; cases hog
          · cases hoi; cases hog
          · cases hoi; cases hog; exact hv
          · cases hoi; cases hog; exact hv
          · cases hoi; cases hog; exact hv
          · cases hoi; cases hog; exact hv
          · cases hoi; cases hog; exact hv
          · cases hoi; cases hog; exact hv
          · cases hoi; cases hog; exact hv
          · cases hoi; cases hog
          · cases hoi; cases hog
          · cases hoi; cases hog; exact hv
          · cases hoi; cases hog; exact hv
          · cases hoi; cases hog; exact hv
          · cases hoi; cases hog; exact hv
          · cases hoi; cases hog; exact hv
          · cases hoi; cases hog
          · cases hoi; cases hog
          · cases hoi; cases hog; exact hv
          · cases hoi; cases hog; exact hv
          · cases hoi; cases hog; exact hv
          · cases hoi; cases hog; exact hv
          · cases hoi; cases hog; exact hv
          · cases hoi; cases hog; exact hv
          · cases hoi; cases hog; exact hv
          · cases hoi; cases hog
          · cases hoi; cases hog
        case refine_1 =>
          intro a' w9 hS h0 hd
          have e8 : a'.tmps[8]?.getD undef = .bool true := vev (h0 8 (by kernel_rfl))
          refine Does2.value (.bool true) (w' := w9) ?_ ⟨rfl, hS, Below.refl _ _⟩
          clear hS h0 hd
          go_simp
        case refine_2 =>
          intro a' w9 hS h0 hd
          have e55 : a'.tmps[55]?.getD undef = .bool true := vev (hd 0 List.mem_cons_self)
          refine Does2.value (.bool true) (w' := w9) ?_ ⟨rfl, hS, Below.refl _ _⟩
          clear hS h0 hd
          go_simp
        case refine_3 =>
          intro a' w9 hS h0 hd
          have e4 : a'.tmps[4]?.getD undef = .pointer (some ⟨w.heap.size + 2, 0, none⟩) := vev (h0 4 (by kernel_rfl))
          obtain ⟨y0, y1, y2, y3, -⟩ := (VM.out.below hS VM.out.lt).cells
          refine Does2.value (.agg #[.int .u32 g, .bool ex, .int .i64 left, .slice a n c]) (w' := w9) ?_ ⟨rfl, hS, Below.refl _ _⟩
          clear hS h0 hd
          go_simp
        case refine_4 =>
          intro a' w9 hS h0 hd
          have e6 : a'.tmps[6]?.getD undef = .int .u32 x := vev (h0 6 (by kernel_rfl))
          refine Does2.value (.int .u32 x) (w' := w9) ?_ ⟨rfl, hS, Below.refl _ _⟩
          clear hS h0 hd
          go_simp
        case refine_5 =>
          intro a' w9 hS h0 hd
          have e57 : a'.tmps[57]?.getD undef = .agg #[.int .u32 g, .bool ex, .int .i64 left, .slice a n c] := vev (hd 2 List.mem_cons_self)
          have e58 : a'.tmps[58]?.getD undef = .int .u32 x := vev (hd 3 (List.mem_cons_of_mem _ List.mem_cons_self))
          refine Does2.call 15 #[.agg #[.int .u32 g, .bool ex, .int .i64 left, .slice a n c], .int .u32 x] (w' := w9) ?_ ((mWants g ex left a n c s x w9 HX.out (by omega) (SM.out.below hS) OK.out.inc OK.out.nn).mono ?_)
          · clear hS h0 hd
            go_simp
          · rw [HWV.out.1]
            rintro e w8 ⟨rfl, hb⟩
            exact ⟨_, rfl, rfl, hS.trans (hb.mono hS.size), hb⟩
        case refine_6 =>
          intro a' w9 hS h0 hd
          have e4 : a'.tmps[4]?.getD undef = .pointer (some ⟨w.heap.size + 2, 0, none⟩) := vev (h0 4 (by kernel_rfl))
          obtain ⟨y0, y1, y2, y3, -⟩ := (VM.out.below hS VM.out.lt).cells
          refine Does2.value (.agg #[.int .u32 g, .bool ex, .int .i64 left, .slice a n c]) (w' := w9) ?_ ⟨rfl, hS, Below.refl _ _⟩
          clear hS h0 hd
          go_simp
        case refine_7 =>
          intro a' w9 hS h0 hd
          have e6 : a'.tmps[6]?.getD undef = .int .u32 x := vev (h0 6 (by kernel_rfl))
          refine Does2.value (.int .u32 x) (w' := w9) ?_ ⟨rfl, hS, Below.refl _ _⟩
          clear hS h0 hd
          go_simp
        case refine_8 =>
          intro a' w9 hS h0 hd
          have e60 : a'.tmps[60]?.getD undef = .agg #[.int .u32 g, .bool ex, .int .i64 left, .slice a n c] := vev (hd 5 List.mem_cons_self)
          have e61 : a'.tmps[61]?.getD undef = .int .u32 x := vev (hd 6 (List.mem_cons_of_mem _ List.mem_cons_self))
          refine Does2.call 16 #[.agg #[.int .u32 g, .bool ex, .int .i64 left, .slice a n c], .int .u32 x] (w' := w9) ?_ ((zWants g ex left a n c s x w9 HX.out (by omega) (SM.out.below hS) OK.out.inc).mono ?_)
          · clear hS h0 hd
            go_simp
          · rw [HWV.out.2]
            rintro e w8 ⟨rfl, hb⟩
            exact ⟨_, rfl, rfl, hS.trans (hb.mono hS.size), hb⟩
        case refine_9 =>
          intro a' w9 hS h0 hd
          have e59 : a'.tmps[59]?.getD undef = .bool wv := vev (hd 4 List.mem_cons_self)
          have e62 : a'.tmps[62]?.getD undef = .bool wv := vev (hd 7 (List.mem_cons_of_mem _ List.mem_cons_self))
          have zz : (wv == wv) = true := by cases wv <;> rfl
          refine Does2.value (.bool true) (w' := w9) ?_ ⟨rfl, hS, Below.refl _ _⟩
          clear hS h0 hd
          go_simp
        case refine_10 =>
          intro a' w9 hS h0 hd
          have e56 : a'.tmps[56]?.getD undef = .bool true := vev (hd 1 List.mem_cons_self)
          have e63 : a'.tmps[63]?.getD undef = .bool true := vev (hd 8 (List.mem_cons_of_mem _ List.mem_cons_self))
          refine Does2.value (.bool true) (w' := w9) ?_ ⟨rfl, hS, Below.refl _ _⟩
          clear hS h0 hd
          go_simp
        case refine_11 =>
          intro a' w9 hS h0 hd
          have e64 : a'.tmps[64]?.getD undef = .bool true := vev (hd 9 List.mem_cons_self)
          refine Does2.value (.bool true) (w' := w9) ?_ ⟨rfl, hS, Below.refl _ _⟩
          clear hS h0 hd
          go_simp
        case refine_12 =>
          intro a' w9 hS h0 hd
          have e4 : a'.tmps[4]?.getD undef = .pointer (some ⟨w.heap.size + 2, 0, none⟩) := vev (h0 4 (by kernel_rfl))
          obtain ⟨y0, y1, y2, y3, -⟩ := (VM.out.below hS VM.out.lt).cells
          refine Does2.value (.agg #[.int .u32 g, .bool ex, .int .i64 left, .slice a n c]) (w' := w9) ?_ ⟨rfl, hS, Below.refl _ _⟩
          clear hS h0 hd
          go_simp
        case refine_13 =>
          intro a' w9 hS h0 hd
          have e66 : a'.tmps[66]?.getD undef = .agg #[.int .u32 g, .bool ex, .int .i64 left, .slice a n c] := vev (hd 11 List.mem_cons_self)
          refine Does2.call 17 #[.agg #[.int .u32 g, .bool ex, .int .i64 left, .slice a n c]] (w' := w9) ?_ ((mSome g ex left a n c w9).mono ?_)
          · clear hS h0 hd
            go_simp
          · rw [HSV.out]
            rintro e w8 ⟨rfl, hb⟩
            exact ⟨_, rfl, rfl, hS.trans (hb.mono hS.size), hb⟩
        case refine_14 =>
          intro a' w9 hS h0 hd
          have e4 : a'.tmps[4]?.getD undef = .pointer (some ⟨w.heap.size + 2, 0, none⟩) := vev (h0 4 (by kernel_rfl))
          obtain ⟨y0, y1, y2, y3, -⟩ := (VM.out.below hS VM.out.lt).cells
          refine Does2.value (.agg #[.int .u32 g, .bool ex, .int .i64 left, .slice a n c]) (w' := w9) ?_ ⟨rfl, hS, Below.refl _ _⟩
          clear hS h0 hd
          go_simp
        case refine_15 =>
          intro a' w9 hS h0 hd
          have e68 : a'.tmps[68]?.getD undef = .agg #[.int .u32 g, .bool ex, .int .i64 left, .slice a n c] := vev (hd 13 List.mem_cons_self)
          refine Does2.call 18 #[.agg #[.int .u32 g, .bool ex, .int .i64 left, .slice a n c]] (w' := w9) ?_ ((zSome g ex left a n c w9).mono ?_)
          · clear hS h0 hd
            go_simp
          · rw [HSV.out]
            rintro e w8 ⟨rfl, hb⟩
            exact ⟨_, rfl, rfl, hS.trans (hb.mono hS.size), hb⟩
        case refine_16 =>
          intro a' w9 hS h0 hd
          have e67 : a'.tmps[67]?.getD undef = .bool sv := vev (hd 12 List.mem_cons_self)
          have e69 : a'.tmps[69]?.getD undef = .bool sv := vev (hd 14 (List.mem_cons_of_mem _ List.mem_cons_self))
          have zz : (sv == sv) = true := by cases sv <;> rfl
          refine Does2.value (.bool true) (w' := w9) ?_ ⟨rfl, hS, Below.refl _ _⟩
          clear hS h0 hd
          go_simp
        case refine_17 =>
          intro a' w9 hS h0 hd
          have e65 : a'.tmps[65]?.getD undef = .bool true := vev (hd 10 List.mem_cons_self)
          have e70 : a'.tmps[70]?.getD undef = .bool true := vev (hd 15 (List.mem_cons_of_mem _ List.mem_cons_self))
          refine Does2.value (.bool true) (w' := w9) ?_ ⟨rfl, hS, Below.refl _ _⟩
          clear hS h0 hd
          go_simp
        case refine_18 =>
          intro a' w9 hS h0 hd
          have e71 : a'.tmps[71]?.getD undef = .bool true := vev (hd 16 List.mem_cons_self)
          refine Does2.value (.bool true) (w' := w9) ?_ ⟨rfl, hS, Below.refl _ _⟩
          clear hS h0 hd
          go_simp
        case refine_19 =>
          intro a' w9 hS h0 hd
          have e4 : a'.tmps[4]?.getD undef = .pointer (some ⟨w.heap.size + 2, 0, none⟩) := vev (h0 4 (by kernel_rfl))
          obtain ⟨y0, y1, y2, y3, -⟩ := (VM.out.below hS VM.out.lt).cells
          refine Does2.value (.agg #[.int .u32 g, .bool ex, .int .i64 left, .slice a n c]) (w' := w9) ?_ ⟨rfl, hS, Below.refl _ _⟩
          clear hS h0 hd
          go_simp
        case refine_20 =>
          intro a' w9 hS h0 hd
          have e7 : a'.tmps[7]?.getD undef = .int .i64 t := vev (h0 7 (by kernel_rfl))
          refine Does2.value (.int .i64 t) (w' := w9) ?_ ⟨rfl, hS, Below.refl _ _⟩
          clear hS h0 hd
          go_simp
        case refine_21 =>
          intro a' w9 hS h0 hd
          have e73 : a'.tmps[73]?.getD undef = .agg #[.int .u32 g, .bool ex, .int .i64 left, .slice a n c] := vev (hd 18 List.mem_cons_self)
          have e74 : a'.tmps[74]?.getD undef = .int .i64 t := vev (hd 19 (List.mem_cons_of_mem _ List.mem_cons_self))
          refine Does2.call 19 #[.agg #[.int .u32 g, .bool ex, .int .i64 left, .slice a n c], .int .i64 t] (w' := w9) ?_ ((mTick g ex left a n c s t w9 HX.out (by omega) (SM.out.below hS) (fun y hy => by have := (OK.out.lb.weak (lo_nn _)) y hy; omega) ⟨OK.out.left.1, OK.out.left.2.1⟩ HTT.out).mono ?_)
          · clear hS h0 hd
            go_simp
          · rintro e w8 ⟨⟨a8, c8, rfl, h8⟩, hb⟩
            rw [HTK.out.2.2.1] at h8
            rw [HTK.out.1, HTK.out.2.1, HTK.out.2.2.1]
            exact ⟨_, rfl, ⟨a8, c8, rfl, h8.1⟩, hS.trans (hb.mono hS.size), hb⟩
        case refine_22 =>
          intro a' w9 hS h0 hd
          have e4 : a'.tmps[4]?.getD undef = .pointer (some ⟨w.heap.size + 2, 0, none⟩) := vev (h0 4 (by kernel_rfl))
          obtain ⟨y0, y1, y2, y3, -⟩ := (VM.out.below hS VM.out.lt).cells
          refine Does2.value (.agg #[.int .u32 g, .bool ex, .int .i64 left, .slice a n c]) (w' := w9) ?_ ⟨rfl, hS, Below.refl _ _⟩
          clear hS h0 hd
          go_simp
        case refine_23 =>
          intro a' w9 hS h0 hd
          have e7 : a'.tmps[7]?.getD undef = .int .i64 t := vev (h0 7 (by kernel_rfl))
          refine Does2.value (.int .i64 t) (w' := w9) ?_ ⟨rfl, hS, Below.refl _ _⟩
          clear hS h0 hd
          go_simp
        case refine_24 =>
          intro a' w9 hS h0 hd
          have e76 : a'.tmps[76]?.getD undef = .agg #[.int .u32 g, .bool ex, .int .i64 left, .slice a n c] := vev (hd 21 List.mem_cons_self)
          have e77 : a'.tmps[77]?.getD undef = .int .i64 t := vev (hd 22 (List.mem_cons_of_mem _ List.mem_cons_self))
          refine Does2.call 20 #[.agg #[.int .u32 g, .bool ex, .int .i64 left, .slice a n c], .int .i64 t] (w' := w9) ?_ ((zTick g ex left a n c s t w9 HX.out (by omega) (SM.out.below hS) (fun y hy => by have := (OK.out.lb.weak (lo_nn _)) y hy; omega) ⟨⟨OK.out.left.1, OK.out.left.2.1⟩, OK.out.left.2.2.2⟩ HTT.out).mono ?_)
          · clear hS h0 hd
            go_simp
          · rintro e w8 ⟨⟨a8, c8, rfl, h8⟩, hb⟩
            rw [HTK.out.2.2.1] at h8
            rw [HTK.out.1, HTK.out.2.1, HTK.out.2.2.1]
            exact ⟨_, rfl, ⟨a8, c8, rfl, h8.1⟩, hS.trans (hb.mono hS.size), hb⟩
        case refine_25 =>
          intro a' w9 hS h0 hd
          obtain ⟨a20, c20, e75, h20⟩ := hd 20 List.mem_cons_self
          replace e75 := vev e75
          obtain ⟨a23, c23, e78, h23⟩ := hd 23 (List.mem_cons_of_mem _ List.mem_cons_self)
          replace e78 := vev e78
          refine Does2.call 10 #[.agg #[.int .u32 g, .bool E, .int .i64 L, .slice a20 l3.length c20], .agg #[.int .u32 g, .bool E, .int .i64 L, .slice a23 l3.length c23]] (w' := w9) ?_ ((rSame8 g E L a20 _ c20 l3 g E L a23 _ c23 l3 w9 rfl rfl (by have := HTK.out.2.2.2; omega) (by have := HTK.out.2.2.2; omega) h20 h23).mono ?_)
          · clear hS h0 hd h20 h23
            go_simp
          · rw [decide_eq_true ⟨rfl, rfl, rfl, rfl⟩]
            rintro e w8 ⟨rfl, hb⟩
            exact ⟨_, rfl, rfl, hS.trans (hb.mono hS.size), hb⟩
        case refine_26 =>
          intro a' w9 hS h0 hd
          have e72 : a'.tmps[72]?.getD undef = .bool true := vev (hd 17 List.mem_cons_self)
          have e79 : a'.tmps[79]?.getD undef = .bool true := vev (hd 24 (List.mem_cons_of_mem _ List.mem_cons_self))
          refine Does2.value (.bool true) (w' := w9) ?_ ⟨rfl, hS, Below.refl _ _⟩
          clear hS h0 hd
          go_simp
        case refine_27 =>
          intro a' w9 hS h0 hd
          have e80 : a'.tmps[80]?.getD undef = .bool true := vev (hd 25 List.mem_cons_self)
          refine Does2.value (.bool true) (w' := w9) ?_ ⟨rfl, hS, Below.refl _ _⟩
          clear hS h0 hd
          go_simp
        case hend =>
          intro ftb wtb hS hv
          have v2 := hv 26 (by decide)
          replace v2 : ftb 2 = .bool true := v2
          simp only [putAll, Act.put, List.setIfInBounds_toArray, List.set_cons_zero, List.set_cons_succ, v2]
          have BB := Lib.hid (BB.out.trans (hS.mono BB.out.size))
          clear hS hv v2
          go_wp2_with fail
          go_ret
          exact ⟨rfl, BB.out⟩
  · have q3' : (200 : Int) < (n : Int) + (n2 : Int) := by omega
    clear q3
    obtain ⟨TT0, TT1⟩ := TT.out
    obtain ⟨VM0, VM1, VM2, VM3, -⟩ := VM.out.cells
    obtain ⟨VN0, VN1, VN2, VN3, -⟩ := VN.out.cells
    go_wp2_with fail
    go_ret
    exact ⟨rfl, BB.out⟩

set_option maxRecDepth 100000 in
theorem contract (H : Type) (enc : TypeId × Value → H) (W : World) (base : Nat) (args : Array Value) (ds gs : List (DataW H)) (before : List MemPlace)
    (hval : ∀ (j : Nat) t v, Tryz.f4.params[j]? = some t → args[j]? = some v → Value.okWide Tryz.prog W .any base t v)
    (hW : DataW.Whole enc Tryz.prog Tryz.f4.params.toList Rows.membTellsSpec.vars false W args.toList ds gs before) (hsz : (DataW.weightsEach Tryz.prog (Tryz.f4.params.toList ++ Rows.membTellsSpec.plain.varTypes Tryz.prog) (ds ++ gs)).all (· ≤ reachBytes) = true) :
    Calls Tryz.prog 4 args W fun e W' => ∃ v, e = .returned v ∧ Rows.membTellsSpec.post enc Tryz.prog Tryz.f4 false true false false W args v W' := by
  have hW' := hW
  obtain ⟨p, q, hA0, hV, rfl, hfz, hnd⟩ := hW
  have hA : DataW.TrodAll enc Tryz.prog W 0 (fun _ => true) true Tryz.f4.params.toList args.toList ds p := hA0
  rw [Tryz.params4] at hA hval
  obtain ⟨v0, vs0, d0, ds0, p0, q0, hargs, rfl, rfl, h0, r0⟩ := trodAll_cons hA
  obtain ⟨rfl, rfl, rfl⟩ := trodAll_nil r0
  obtain rfl : args = #[v0] := by cases args; simp_all
  obtain ⟨rfl, rfl⟩ := trodVars_none hV
  have k0 := h0
  have lt0 : ∀ x ∈ p0, x.block < W.heap.size := by obtain ⟨m, hm⟩ := k0; exact DataW.trod_lt m _ _ _ hm
  obtain ⟨kq0, l0, g0, x0, f0, a0, c0, s0, gg0, xx0, ff0, aa0, cc0, ss0, y0, t0, rfl, q10, q20, q30, q40, q50, q60, q70⟩ := open_tells (hval 0 45 v0 rfl rfl) h0 (fun x hx => by simpa using List.all_eq_true.1 hsz _ (DataW.weights_mem_each (j := 0) rfl rfl x hx))
  clear hA0
  refine (walk W kq0 l0 g0 x0 f0 a0 c0 s0 gg0 xx0 ff0 aa0 cc0 ss0 y0 t0 q10 q20 q30 q40 q50 q60 q70).mono fun e W' ⟨he, bel⟩ => ?_
  subst he
  exact ⟨_, rfl, _, _, _, [], _, [], hW', trodAll_mk1 (shut_bool Tryz.underlying4 _), (trodAll_cons_mk (Below.trod laidOut (by kernel_rfl) (of_decide_eq_true (by kernel_rfl)) k0 bel lt0) trodAll_mk0), rfl, bel.frame _, fun h => by cases h⟩

set_option maxRecDepth 100000 in
theorem lifted (os : Os) (started : os.Started) (H : Type) (enc : TypeId × Value → H) :
    ReturnsInHanded {} Tryz.checked os 4 .any (Rows.membTellsSpec.pre6 enc Tryz.prog Tryz.f4 Rows.membTellsRow.domain false) (Rows.membTellsSpec.post enc Tryz.prog Tryz.f4 false true false false) := by
  refine returnsInHanded_of_change_sized (C := Tryz.checked) own started (by kernel_rfl) Tryz.func4
    (ChangeSpec.witness6 (enc := enc) (C := Tryz.checked) false ⟨#[], #[(.agg #[.int .i64 0, .int .i64 0, .int .u32 0, .bool false, .int .i64 0, .slice none 0 0, .int .u32 0, .bool false, .int .i64 0, .slice none 0 0, .int .u32 0, .int .i64 0])], []⟩ 8 (by kernel_rfl) (by kernel_rfl) (by kernel_rfl) (by kernel_rfl)) ?_
  intro W base args ds gs before hval hW hcnd hsz _
  exact contract H enc W base args ds gs before hval hW hsz
theorem said : Rows.MembTellsSaid :=
  OpenClaim.holds_of_wide 4 Tryz.f4 rfl rfl rfl rfl rfl rfl rfl ⟨rfl, rfl, rfl, rfl, rfl⟩ rfl rfl rfl rfl rfl (by kernel_rfl) Tryz.func4 (by kernel_rfl)
    (of_decide_eq_true (by kernel_rfl)) (by unfold Func.isWrapper; first | (rw [if_pos (by decide +kernel)]; kernel_rfl) | (rw [if_neg (by decide +kernel)]; exact ⟨rfl, rfl⟩))
    (fun os started H enc _ => lifted os started H enc)
#print axioms said
end Go.Proofs.YtllpmepmgnnoaaaGreat.membTells
