/- The law MembKeeps: every call returns true, and its arguments read behind the call as before it. Condition: none but the row's own. -/
import Derived.Test.YtllpmepmgnnoaaaY14
namespace Go.Proofs.Ytllpmepmgnnoaaa.membKeeps
set_option linter.unusedVariables false
open Go.ChangeShapes Go.WideShapes Go.ChangeAt Go.RowKit
open Go.ChangeMaps (open_string shut_string)

def kpffV (N : Nat) (g x t kp : Int) (xC : Bool) (lC : Int) (aC : Option Addr) (nC cC : Nat) (xD : Bool) (lD : Int) (aD : Option Addr) (nD cD : Nat) : Nat → Value → List Value → World → Prop
  | 0, v, _, _ => v = .bool true
  | 1, v, _, _ => v = .bool true
  | 2, v, _, _ => v = .int .i64 0
  | 3, v, _, _ => v = .bool true
  | 4, v, _, _ => v = .bool true
  | 5, v, _, _ => v = .bool true
  | 6, v, _, _ => v = .int .i64 0
  | 7, v, _, _ => v = .bool true
  | 8, v, _, _ => v = .bool true
  | 9, v, _, _ => v = .bool true
  | 10, v, _, _ => v = .agg #[.int .u32 g, .bool xC, .int .i64 lC, .slice aC nC cC]
  | 11, v, _, _ => v = .int .u32 x
  | 12, v, _, _ => v = .bool false
  | 13, v, _, _ => v = .bool false
  | 14, v, _, _ => v = .bool false
  | 15, v, _, _ => v = undef
  | 16, v, _, _ => v = undef
  | 17, v, _, _ => v = undef
  | 18, v, _, _ => v = undef
  | 19, v, _, _ => v = .bool false
  | 20, v, _, _ => v = .bool true
  | 21, v, _, _ => v = .bool true
  | 22, v, _, _ => v = .bool true
  | 23, v, _, _ => v = .agg #[.int .u32 g, .bool xD, .int .i64 lD, .slice aD nD cD]
  | 24, v, _, _ => v = .int .u32 x
  | 25, v, _, _ => v = .bool false
  | 26, v, _, _ => v = .bool false
  | 27, v, _, _ => v = .bool true
  | 28, v, _, _ => v = .bool true
  | 29, v, _, _ => v = .int .i64 t
  | 30, v, _, _ => v = .pointer (some ⟨N + 1, 0, none⟩)
  | 31, v, _, _ => v = .int .i64 kp
  | 32, v, _, _ => v = .bool false
  | 33, v, _, _ => v = .bool false
  | 34, v, _, _ => v = .bool true
  | 35, v, _, _ => v = .bool true
  | 36, v, _, _ => v = .bool true
  | 37, v, _, _ => v = .agg #[.int .u32 g, .bool xD, .int .i64 lD, .slice aD nD cD]
  | 38, v, _, _ => v = .bool false
  | 39, v, _, _ => v = .int .i64 t
  | 40, v, _, _ => v = .pointer (some ⟨N + 1, 0, none⟩)
  | 41, v, _, _ => v = .int .i64 kp
  | 42, v, _, _ => v = .bool false
  | 43, v, _, _ => v = .bool true
  | 44, v, _, _ => v = .bool true
  | 45, v, _, _ => v = .bool true
  | _, _, _, _ => True
def kpffD : Nat → List Nat
  | 1 => [0]
  | 2 => [1]
  | 3 => [2, 1]
  | 4 => [1, 3]
  | 5 => [4]
  | 6 => [5]
  | 7 => [6, 5]
  | 8 => [5, 7]
  | 9 => [8]
  | 10 => [9]
  | 11 => [9]
  | 12 => [10, 11, 9]
  | 13 => [9]
  | 14 => [13, 9]
  | 15 => [14]
  | 16 => [14]
  | 17 => [16, 14]
  | 18 => [15, 17, 14]
  | 19 => [14, 18, 9]
  | 20 => [12, 19, 9]
  | 21 => [9, 20]
  | 22 => [21]
  | 23 => [22]
  | 24 => [22]
  | 25 => [23, 24, 22]
  | 26 => [22]
  | 27 => [26, 22]
  | 28 => [27, 22]
  | 29 => [28]
  | 30 => [28]
  | 31 => [30, 28]
  | 32 => [29, 31, 28]
  | 33 => [28, 32, 22]
  | 34 => [25, 33, 22]
  | 35 => [22, 34]
  | 36 => [35]
  | 37 => [36]
  | 38 => [37, 36]
  | 39 => [36]
  | 40 => [36]
  | 41 => [40, 36]
  | 42 => [39, 41, 36]
  | 43 => [38, 42, 36]
  | 44 => [36, 43]
  | 45 => [44]
  | _ => []
def kpffN (i : Nat) : Bool := !([15, 16, 17, 18] : List Nat).contains i
theorem kpff_st (N : Nat) (g x t kp : Int) (xC : Bool) (lC : Int) (aC : Option Addr) (nC cC : Nat) (xD : Bool) (lD : Int) (aD : Option Addr) (nD cD : Nat) {i : Nat} {v : Value} {us : List Value} {w w' : World}  (hr : Below w.heap.size w w') (hv : kpffV N g x t kp xC lC aC nC cC xD lD aD nD cD i v us w) : kpffV N g x t kp xC lC aC nC cC xD lD aD nD cD i v us w' := by
  unfold kpffV at hv ⊢
  split at hv
  all_goals first
    | exact hv
def kpftV (N : Nat) (g x t kp : Int) (xC : Bool) (lC : Int) (aC : Option Addr) (nC cC : Nat) (xD : Bool) (lD : Int) (aD : Option Addr) (nD cD : Nat) : Nat → Value → List Value → World → Prop
  | 0, v, _, _ => v = .bool true
  | 1, v, _, _ => v = .bool true
  | 2, v, _, _ => v = .int .i64 0
  | 3, v, _, _ => v = .bool true
  | 4, v, _, _ => v = .bool true
  | 5, v, _, _ => v = .bool true
  | 6, v, _, _ => v = .int .i64 0
  | 7, v, _, _ => v = .bool true
  | 8, v, _, _ => v = .bool true
  | 9, v, _, _ => v = .bool true
  | 10, v, _, _ => v = .agg #[.int .u32 g, .bool xC, .int .i64 lC, .slice aC nC cC]
  | 11, v, _, _ => v = .int .u32 x
  | 12, v, _, _ => v = .bool false
  | 13, v, _, _ => v = .bool false
  | 14, v, _, _ => v = .bool false
  | 15, v, _, _ => v = undef
  | 16, v, _, _ => v = undef
  | 17, v, _, _ => v = undef
  | 18, v, _, _ => v = undef
  | 19, v, _, _ => v = .bool false
  | 20, v, _, _ => v = .bool true
  | 21, v, _, _ => v = .bool true
  | 22, v, _, _ => v = .bool true
  | 23, v, _, _ => v = .agg #[.int .u32 g, .bool xD, .int .i64 lD, .slice aD nD cD]
  | 24, v, _, _ => v = .int .u32 x
  | 25, v, _, _ => v = .bool true
  | 26, v, _, _ => v = .bool false
  | 27, v, _, _ => v = .bool true
  | 28, v, _, _ => v = .bool true
  | 29, v, _, _ => v = .int .i64 t
  | 30, v, _, _ => v = .pointer (some ⟨N + 1, 0, none⟩)
  | 31, v, _, _ => v = .int .i64 kp
  | 32, v, _, _ => v = .bool true
  | 33, v, _, _ => v = .bool true
  | 34, v, _, _ => v = .bool true
  | 35, v, _, _ => v = .bool true
  | 36, v, _, _ => v = .bool true
  | 37, v, _, _ => v = .agg #[.int .u32 g, .bool xD, .int .i64 lD, .slice aD nD cD]
  | 38, v, _, _ => v = .bool true
  | 39, v, _, _ => v = .int .i64 t
  | 40, v, _, _ => v = .pointer (some ⟨N + 1, 0, none⟩)
  | 41, v, _, _ => v = .int .i64 kp
  | 42, v, _, _ => v = .bool true
  | 43, v, _, _ => v = .bool true
  | 44, v, _, _ => v = .bool true
  | 45, v, _, _ => v = .bool true
  | _, _, _, _ => True
def kpftD : Nat → List Nat
  | 1 => [0]
  | 2 => [1]
  | 3 => [2, 1]
  | 4 => [1, 3]
  | 5 => [4]
  | 6 => [5]
  | 7 => [6, 5]
  | 8 => [5, 7]
  | 9 => [8]
  | 10 => [9]
  | 11 => [9]
  | 12 => [10, 11, 9]
  | 13 => [9]
  | 14 => [13, 9]
  | 15 => [14]
  | 16 => [14]
  | 17 => [16, 14]
  | 18 => [15, 17, 14]
  | 19 => [14, 18, 9]
  | 20 => [12, 19, 9]
  | 21 => [9, 20]
  | 22 => [21]
  | 23 => [22]
  | 24 => [22]
  | 25 => [23, 24, 22]
  | 26 => [22]
  | 27 => [26, 22]
  | 28 => [27, 22]
  | 29 => [28]
  | 30 => [28]
  | 31 => [30, 28]
  | 32 => [29, 31, 28]
  | 33 => [28, 32, 22]
  | 34 => [25, 33, 22]
  | 35 => [22, 34]
  | 36 => [35]
  | 37 => [36]
  | 38 => [37, 36]
  | 39 => [36]
  | 40 => [36]
  | 41 => [40, 36]
  | 42 => [39, 41, 36]
  | 43 => [38, 42, 36]
  | 44 => [36, 43]
  | 45 => [44]
  | _ => []
def kpftN (i : Nat) : Bool := !([15, 16, 17, 18] : List Nat).contains i
theorem kpft_st (N : Nat) (g x t kp : Int) (xC : Bool) (lC : Int) (aC : Option Addr) (nC cC : Nat) (xD : Bool) (lD : Int) (aD : Option Addr) (nD cD : Nat) {i : Nat} {v : Value} {us : List Value} {w w' : World}  (hr : Below w.heap.size w w') (hv : kpftV N g x t kp xC lC aC nC cC xD lD aD nD cD i v us w) : kpftV N g x t kp xC lC aC nC cC xD lD aD nD cD i v us w' := by
  unfold kpftV at hv ⊢
  split at hv
  all_goals first
    | exact hv
def kptfV (N : Nat) (g x t kp : Int) (xC : Bool) (lC : Int) (aC : Option Addr) (nC cC : Nat) (xD : Bool) (lD : Int) (aD : Option Addr) (nD cD : Nat) : Nat → Value → List Value → World → Prop
  | 0, v, _, _ => v = .bool true
  | 1, v, _, _ => v = .bool true
  | 2, v, _, _ => v = .int .i64 0
  | 3, v, _, _ => v = .bool true
  | 4, v, _, _ => v = .bool true
  | 5, v, _, _ => v = .bool true
  | 6, v, _, _ => v = .int .i64 0
  | 7, v, _, _ => v = .bool true
  | 8, v, _, _ => v = .bool true
  | 9, v, _, _ => v = .bool true
  | 10, v, _, _ => v = .agg #[.int .u32 g, .bool xC, .int .i64 lC, .slice aC nC cC]
  | 11, v, _, _ => v = .int .u32 x
  | 12, v, _, _ => v = .bool false
  | 13, v, _, _ => v = .bool true
  | 14, v, _, _ => v = .bool true
  | 15, v, _, _ => v = .int .i64 t
  | 16, v, _, _ => v = .pointer (some ⟨N + 1, 0, none⟩)
  | 17, v, _, _ => v = .int .i64 kp
  | 18, v, _, _ => v = .bool false
  | 19, v, _, _ => v = .bool false
  | 20, v, _, _ => v = .bool true
  | 21, v, _, _ => v = .bool true
  | 22, v, _, _ => v = .bool true
  | 23, v, _, _ => v = .agg #[.int .u32 g, .bool xD, .int .i64 lD, .slice aD nD cD]
  | 24, v, _, _ => v = .int .u32 x
  | 25, v, _, _ => v = .bool false
  | 26, v, _, _ => v = .bool true
  | 27, v, _, _ => v = .bool false
  | 28, v, _, _ => v = .bool false
  | 29, v, _, _ => v = undef
  | 30, v, _, _ => v = undef
  | 31, v, _, _ => v = undef
  | 32, v, _, _ => v = undef
  | 33, v, _, _ => v = .bool false
  | 34, v, _, _ => v = .bool true
  | 35, v, _, _ => v = .bool true
  | 36, v, _, _ => v = .bool true
  | 37, v, _, _ => v = .agg #[.int .u32 g, .bool xD, .int .i64 lD, .slice aD nD cD]
  | 38, v, _, _ => v = .bool false
  | 39, v, _, _ => v = .int .i64 t
  | 40, v, _, _ => v = .pointer (some ⟨N + 1, 0, none⟩)
  | 41, v, _, _ => v = .int .i64 kp
  | 42, v, _, _ => v = .bool false
  | 43, v, _, _ => v = .bool true
  | 44, v, _, _ => v = .bool true
  | 45, v, _, _ => v = .bool true
  | _, _, _, _ => True
def kptfD : Nat → List Nat
  | 1 => [0]
  | 2 => [1]
  | 3 => [2, 1]
  | 4 => [1, 3]
  | 5 => [4]
  | 6 => [5]
  | 7 => [6, 5]
  | 8 => [5, 7]
  | 9 => [8]
  | 10 => [9]
  | 11 => [9]
  | 12 => [10, 11, 9]
  | 13 => [9]
  | 14 => [13, 9]
  | 15 => [14]
  | 16 => [14]
  | 17 => [16, 14]
  | 18 => [15, 17, 14]
  | 19 => [14, 18, 9]
  | 20 => [12, 19, 9]
  | 21 => [9, 20]
  | 22 => [21]
  | 23 => [22]
  | 24 => [22]
  | 25 => [23, 24, 22]
  | 26 => [22]
  | 27 => [26, 22]
  | 28 => [27, 22]
  | 29 => [28]
  | 30 => [28]
  | 31 => [30, 28]
  | 32 => [29, 31, 28]
  | 33 => [28, 32, 22]
  | 34 => [25, 33, 22]
  | 35 => [22, 34]
  | 36 => [35]
  | 37 => [36]
  | 38 => [37, 36]
  | 39 => [36]
  | 40 => [36]
  | 41 => [40, 36]
  | 42 => [39, 41, 36]
  | 43 => [38, 42, 36]
  | 44 => [36, 43]
  | 45 => [44]
  | _ => []
def kptfN (i : Nat) : Bool := !([29, 30, 31, 32] : List Nat).contains i
theorem kptf_st (N : Nat) (g x t kp : Int) (xC : Bool) (lC : Int) (aC : Option Addr) (nC cC : Nat) (xD : Bool) (lD : Int) (aD : Option Addr) (nD cD : Nat) {i : Nat} {v : Value} {us : List Value} {w w' : World}  (hr : Below w.heap.size w w') (hv : kptfV N g x t kp xC lC aC nC cC xD lD aD nD cD i v us w) : kptfV N g x t kp xC lC aC nC cC xD lD aD nD cD i v us w' := by
  unfold kptfV at hv ⊢
  split at hv
  all_goals first
    | exact hv
def kpttV (N : Nat) (g x t kp : Int) (xC : Bool) (lC : Int) (aC : Option Addr) (nC cC : Nat) (xD : Bool) (lD : Int) (aD : Option Addr) (nD cD : Nat) : Nat → Value → List Value → World → Prop
  | 0, v, _, _ => v = .bool true
  | 1, v, _, _ => v = .bool true
  | 2, v, _, _ => v = .int .i64 0
  | 3, v, _, _ => v = .bool true
  | 4, v, _, _ => v = .bool true
  | 5, v, _, _ => v = .bool true
  | 6, v, _, _ => v = .int .i64 0
  | 7, v, _, _ => v = .bool true
  | 8, v, _, _ => v = .bool true
  | 9, v, _, _ => v = .bool true
  | 10, v, _, _ => v = .agg #[.int .u32 g, .bool xC, .int .i64 lC, .slice aC nC cC]
  | 11, v, _, _ => v = .int .u32 x
  | 12, v, _, _ => v = .bool true
  | 13, v, _, _ => v = .bool true
  | 14, v, _, _ => v = .bool true
  | 15, v, _, _ => v = .int .i64 t
  | 16, v, _, _ => v = .pointer (some ⟨N + 1, 0, none⟩)
  | 17, v, _, _ => v = .int .i64 kp
  | 18, v, _, _ => v = .bool true
  | 19, v, _, _ => v = .bool true
  | 20, v, _, _ => v = .bool true
  | 21, v, _, _ => v = .bool true
  | 22, v, _, _ => v = .bool true
  | 23, v, _, _ => v = .agg #[.int .u32 g, .bool xD, .int .i64 lD, .slice aD nD cD]
  | 24, v, _, _ => v = .int .u32 x
  | 25, v, _, _ => v = .bool false
  | 26, v, _, _ => v = .bool true
  | 27, v, _, _ => v = .bool false
  | 28, v, _, _ => v = .bool false
  | 29, v, _, _ => v = undef
  | 30, v, _, _ => v = undef
  | 31, v, _, _ => v = undef
  | 32, v, _, _ => v = undef
  | 33, v, _, _ => v = .bool false
  | 34, v, _, _ => v = .bool true
  | 35, v, _, _ => v = .bool true
  | 36, v, _, _ => v = .bool true
  | 37, v, _, _ => v = .agg #[.int .u32 g, .bool xD, .int .i64 lD, .slice aD nD cD]
  | 38, v, _, _ => v = .bool true
  | 39, v, _, _ => v = .int .i64 t
  | 40, v, _, _ => v = .pointer (some ⟨N + 1, 0, none⟩)
  | 41, v, _, _ => v = .int .i64 kp
  | 42, v, _, _ => v = .bool true
  | 43, v, _, _ => v = .bool true
  | 44, v, _, _ => v = .bool true
  | 45, v, _, _ => v = .bool true
  | _, _, _, _ => True
def kpttD : Nat → List Nat
  | 1 => [0]
  | 2 => [1]
  | 3 => [2, 1]
  | 4 => [1, 3]
  | 5 => [4]
  | 6 => [5]
  | 7 => [6, 5]
  | 8 => [5, 7]
  | 9 => [8]
  | 10 => [9]
  | 11 => [9]
  | 12 => [10, 11, 9]
  | 13 => [9]
  | 14 => [13, 9]
  | 15 => [14]
  | 16 => [14]
  | 17 => [16, 14]
  | 18 => [15, 17, 14]
  | 19 => [14, 18, 9]
  | 20 => [12, 19, 9]
  | 21 => [9, 20]
  | 22 => [21]
  | 23 => [22]
  | 24 => [22]
  | 25 => [23, 24, 22]
  | 26 => [22]
  | 27 => [26, 22]
  | 28 => [27, 22]
  | 29 => [28]
  | 30 => [28]
  | 31 => [30, 28]
  | 32 => [29, 31, 28]
  | 33 => [28, 32, 22]
  | 34 => [25, 33, 22]
  | 35 => [22, 34]
  | 36 => [35]
  | 37 => [36]
  | 38 => [37, 36]
  | 39 => [36]
  | 40 => [36]
  | 41 => [40, 36]
  | 42 => [39, 41, 36]
  | 43 => [38, 42, 36]
  | 44 => [36, 43]
  | 45 => [44]
  | _ => []
def kpttN (i : Nat) : Bool := !([29, 30, 31, 32] : List Nat).contains i
theorem kptt_st (N : Nat) (g x t kp : Int) (xC : Bool) (lC : Int) (aC : Option Addr) (nC cC : Nat) (xD : Bool) (lD : Int) (aD : Option Addr) (nD cD : Nat) {i : Nat} {v : Value} {us : List Value} {w w' : World}  (hr : Below w.heap.size w w') (hv : kpttV N g x t kp xC lC aC nC cC xD lD aD nD cD i v us w) : kpttV N g x t kp xC lC aC nC cC xD lD aD nD cD i v us w' := by
  unfold kpttV at hv ⊢
  split at hv
  all_goals first
    | exact hv
set_option linter.unusedSimpArgs false in
set_option maxRecDepth 100000 in
set_option maxHeartbeats 16000000 in
theorem walk (w : World) (kp la g : Int) (b : Option Addr) (cb : Nat) (xs : List Int) (x t : Int) (hg : 0 ≤ g ∧ g ≤ 4294967295) (ha : As w b xs) (hna : List.length xs ≤ 1125899906842624) (hnila : b = none → cb = 0) (htb : -9223372036854775808 ≤ t ∧ t ≤ 9223372036854775807) :
    Calls Try.prog 5 #[.agg #[.int .i64 kp, .int .i64 la, .int .u32 g, .slice b (List.length xs) cb, .int .u32 x, .int .i64 t]] w fun e w' => e = .returned (.bool true) ∧ Below w.heap.size w w' := by
  obtain ⟨ln, hln⟩ : ∃ ln, xs.length = ln := ⟨_, rfl⟩
  rw [hln] at hna ⊢
  have HL := Lib.hid hln
  have HNILA := Lib.hid hnila
  have HG := Lib.hid hg
  have HTB := Lib.hid htb
  have hb1 := bel1 w (.cells #[.int .i64 kp, .int .i64 la, .int .u32 g, .slice b ln cb, .int .u32 x, .int .i64 t] 62)
  have tn := tim_new (w.alloc (.cells #[.int .i64 kp, .int .i64 la, .int .u32 g, .slice b ln cb, .int .u32 x, .int .i64 t] 62)) (.int .i64 kp) (.int .i64 la)
  rw [World.size_alloc] at tn
  have hb := hb1.trans ((bel1 (w.alloc (.cells #[.int .i64 kp, .int .i64 la, .int .u32 g, .slice b ln cb, .int .u32 x, .int .i64 t] 62)) (.cells #[.int .i64 kp, .int .i64 la] 45)).mono hb1.size)
  have TT : Hid (TC ((w.alloc (.cells #[.int .i64 kp, .int .i64 la, .int .u32 g, .slice b ln cb, .int .u32 x, .int .i64 t] 62)).alloc (.cells #[.int .i64 kp, .int .i64 la] 45)) (w.heap.size + 1) kp la) := Lib.hid ⟨tn.1, tn.2⟩
  have BB := Lib.hid hb
  have SL := Lib.hid (ha.below hb)
  clear hln hnila hg htb hb1 tn hb ha
  go_enter Try.func5, Try.ntmps5
  go_wp2_with fail
  generalize (w.alloc (.cells #[.int .i64 kp, .int .i64 la, .int .u32 g, .slice b ln cb, .int .u32 x, .int .i64 t] 62)).alloc (.cells #[.int .i64 kp, .int .i64 la] 45) = w1 at *
  refine (mShown w1).mono ?_
  rintro e w101 ⟨rfl, hb⟩
  have BB := Lib.hid (BB.out.trans (hb.mono BB.out.size))
  have SL := Lib.hid (SL.out.below hb)
  have TT := Lib.hid (TT.out.below hb)
  clear hb
  have hbn := bel1 w101 (.cells #[.int .u32 g, .bool false, .int .i64 0, .slice none 0 0] 48)
  have VMn := MV.new w101 g false 0 none 0 0
  have BB := Lib.hid (BB.out.trans (hbn.mono BB.out.size))
  have SL := Lib.hid (SL.out.below hbn)
  have TT := Lib.hid (TT.out.below hbn)
  clear hbn
  have VM := Lib.hid VMn
  clear VMn
  obtain ⟨TT0, TT1⟩ := TT.out
  obtain ⟨VM0, VM1, VM2, VM3, -⟩ := VM.out.cells
  go_wp2_with fail
  generalize w101.alloc (.cells #[.int .u32 g, .bool false, .int .i64 0, .slice none 0 0] 48) = w102 at *
  refine (rMay8 kp la _).mono ?_
  rintro e w103 ⟨rfl, hb⟩
  clear TT0 TT1 VM0 VM1 VM2 VM3
  have BB := Lib.hid (BB.out.trans (hb.mono BB.out.size))
  have SL := Lib.hid (SL.out.below hb)
  have TT := Lib.hid (TT.out.below hb)
  have VM := Lib.hid (VM.out.below hb VM.out.lt)
  clear hb
  by_cases q1 : mayP kp la
  · rw [decide_eq_true q1]
    have MAY := Lib.hid q1
    clear q1
    obtain ⟨TT0, TT1⟩ := TT.out
    obtain ⟨VM0, VM1, VM2, VM3, -⟩ := VM.out.cells
    go_wp2_with fail
    refine (rRight8 g false 0 none 0 0 [] _ rfl (Hs.nil _ _) (by decide)).mono ?_
    rintro e w104 ⟨rfl, hb⟩
    clear TT0 TT1 VM0 VM1 VM2 VM3
    have BB := Lib.hid (BB.out.trans (hb.mono BB.out.size))
    have SL := Lib.hid (SL.out.below hb)
    have TT := Lib.hid (TT.out.below hb)
    have VM := Lib.hid (VM.out.below hb VM.out.lt)
    clear hb
    by_cases q2 : okM g false 0 []
    · rw [decide_eq_true q2]
      have OK := Lib.hid q2
      have TB := Lib.hid (may_T MAY.out q2 HG.out)
      clear q2
      by_cases q3 : ln ≤ 60
      · have q3' : decide ((60 : Int) < (ln : Int)) = false := decide_eq_false (by omega)
        by_cases q4 : t < 0
        · obtain ⟨TT0, TT1⟩ := TT.out
          obtain ⟨VM0, VM1, VM2, VM3, -⟩ := VM.out.cells
          go_wp2_with fail
          go_ret
          exact ⟨rfl, BB.out⟩
        · have q4' : decide (t < 0) = false := decide_eq_false q4
          by_cases q5 : 1000000000 < t
          · obtain ⟨TT0, TT1⟩ := TT.out
            obtain ⟨VM0, VM1, VM2, VM3, -⟩ := VM.out.cells
            go_wp2_with fail
            go_ret
            exact ⟨rfl, BB.out⟩
          · have q5' : decide (1000000000 < t) = false := decide_eq_false q5
            have HT0 : Hid (0 ≤ t) := Lib.hid (by omega)
            have HTM : Hid (max t 0 = t) := Lib.hid (by omega)
            clear q4 q5
            obtain ⟨TT0, TT1⟩ := TT.out
            obtain ⟨VM0, VM1, VM2, VM3, -⟩ := VM.out.cells
            go_wp2_with fail
            refine (mHear 1 kp la g false 0 none 0 0 [] b ln cb xs _ rfl (by decide) (Hs.nil _ _) (fun _ => rfl) inc_nil HL.out (by omega) SL.out HNILA.out TB.out).mono ?_
            rintro e w105 ⟨⟨aA, cA, aaA, ccA, rsA, rfl, hA, mA, qA⟩, hb⟩
            clear TT0 TT1 VM0 VM1 VM2 VM3
            have BB := Lib.hid (BB.out.trans (hb.mono BB.out.size))
            have SL := Lib.hid (SL.out.below hb)
            have TT := Lib.hid (TT.out.below hb)
            have VM := Lib.hid (VM.out.below hb VM.out.lt)
            clear hb
            have HPA := keeps1 (g := g) (kp := kp) (la := la) (xs := xs) (by rw [HL.out]; omega)
            have HRA := Lib.hid (hear_ok 1 xs MAY.out OK.out)
            rw [HPA] at hA HRA ⊢
            simp only at hA HRA ⊢
            have SSA := Lib.hid hA.1
            clear hA mA qA HPA
            obtain ⟨sA, hsA⟩ : ∃ l, kof (mk xs) (fun _ => kp) = l := ⟨_, rfl⟩
            rw [hsA] at SSA HRA ⊢
            have HSA := Lib.hid hsA
            clear hsA
            obtain ⟨nA, hnnA⟩ : ∃ nn, sA.length = nn := ⟨_, rfl⟩
            have NNA := Lib.hid hnnA
            rw [hnnA]
            clear hnnA
            have hbn := bel1 w105 (.cells #[.int .u32 g, .bool false, .int .i64 0, .slice aA nA cA] 48)
            have VAn := MV.new w105 g false 0 aA nA cA
            have BB := Lib.hid (BB.out.trans (hbn.mono BB.out.size))
            have SL := Lib.hid (SL.out.below hbn)
            have SSA := Lib.hid (SSA.out.below hbn)
            have TT := Lib.hid (TT.out.below hbn)
            have VM := Lib.hid (VM.out.below hbn VM.out.lt)
            clear hbn
            have VA := Lib.hid VAn
            clear VAn
            obtain ⟨TT0, TT1⟩ := TT.out
            obtain ⟨VM0, VM1, VM2, VM3, -⟩ := VM.out.cells
            obtain ⟨VA0, VA1, VA2, VA3, -⟩ := VA.out.cells
            go_wp2_with fail
            generalize w105.alloc (.cells #[.int .u32 g, .bool false, .int .i64 0, .slice aA nA cA] 48) = w106 at *
            refine (mHear 2 kp la g false 0 none 0 0 [] b ln cb xs _ rfl (by decide) (Hs.nil _ _) (fun _ => rfl) inc_nil HL.out (by omega) SL.out HNILA.out TB.out).mono ?_
            rintro e w107 ⟨⟨aB, cB, aaB, ccB, rsB, rfl, hB, mB, qB⟩, hb⟩
            clear TT0 TT1 VM0 VM1 VM2 VM3 VA0 VA1 VA2 VA3
            have BB := Lib.hid (BB.out.trans (hb.mono BB.out.size))
            have SL := Lib.hid (SL.out.below hb)
            have SSA := Lib.hid (SSA.out.below hb)
            have TT := Lib.hid (TT.out.below hb)
            have VM := Lib.hid (VM.out.below hb VM.out.lt)
            have VA := Lib.hid (VA.out.below hb VA.out.lt)
            clear hb
            have HPB := keeps2 (g := g) (kp := kp) (la := la) (xs := xs) (by rw [HL.out]; omega)
            have HRB := Lib.hid (hear_ok 2 xs MAY.out OK.out)
            rw [HPB] at hB HRB ⊢
            simp only at hB HRB ⊢
            have SSB := Lib.hid hB.1
            clear hB mB qB HPB
            obtain ⟨sB, hsB⟩ : ∃ l, kof (mk xs) (fun _ => 0) = l := ⟨_, rfl⟩
            rw [hsB] at SSB HRB ⊢
            have HSB := Lib.hid hsB
            clear hsB
            obtain ⟨nB, hnnB⟩ : ∃ nn, sB.length = nn := ⟨_, rfl⟩
            have NNB := Lib.hid hnnB
            rw [hnnB]
            clear hnnB
            have hbn := bel1 w107 (.cells #[.int .u32 g, .bool true, .int .i64 kp, .slice aB nB cB] 48)
            have VBn := MV.new w107 g true kp aB nB cB
            have BB := Lib.hid (BB.out.trans (hbn.mono BB.out.size))
            have SL := Lib.hid (SL.out.below hbn)
            have SSA := Lib.hid (SSA.out.below hbn)
            have SSB := Lib.hid (SSB.out.below hbn)
            have TT := Lib.hid (TT.out.below hbn)
            have VM := Lib.hid (VM.out.below hbn VM.out.lt)
            have VA := Lib.hid (VA.out.below hbn VA.out.lt)
            clear hbn
            have VB := Lib.hid VBn
            clear VBn
            obtain ⟨TT0, TT1⟩ := TT.out
            obtain ⟨VM0, VM1, VM2, VM3, -⟩ := VM.out.cells
            obtain ⟨VA0, VA1, VA2, VA3, -⟩ := VA.out.cells
            obtain ⟨VB0, VB1, VB2, VB3, -⟩ := VB.out.cells
            go_wp2_with fail
            generalize w107.alloc (.cells #[.int .u32 g, .bool true, .int .i64 kp, .slice aB nB cB] 48) = w108 at *
            refine (rHas b ln cb xs x _ HL.out (by omega) SL.out).mono ?_
            rintro e w109 ⟨rfl, hw⟩
            clear TT0 TT1 VM0 VM1 VM2 VM3 VA0 VA1 VA2 VA3 VB0 VB1 VB2 VB3
            subst hw
            obtain ⟨bx, hbx⟩ : ∃ bx, decide (x ∈ xs) = bx := ⟨_, rfl⟩
            rw [hbx]
            have BX := Lib.hid hbx
            clear hbx
            obtain ⟨TT0, TT1⟩ := TT.out
            obtain ⟨VM0, VM1, VM2, VM3, -⟩ := VM.out.cells
            obtain ⟨VA0, VA1, VA2, VA3, -⟩ := VA.out.cells
            obtain ⟨VB0, VB1, VB2, VB3, -⟩ := VB.out.cells
            go_wp2_with fail
            refine (mTick g false 0 aA nA cA sA t _ NNA.out (by have := HRA.out.2.1; rw [NNA.out] at this; omega) SSA.out (fun y hy => by have := (HRA.out.lb.weak (lo_nn _)) y hy; omega) (by have := HRA.out.left; omega) HTB.out).mono ?_
            rintro e w110 ⟨⟨aC, cC, rfl, hC⟩, hb⟩
            clear TT0 TT1 VM0 VM1 VM2 VM3 VA0 VA1 VA2 VA3 VB0 VB1 VB2 VB3
            have BB := Lib.hid (BB.out.trans (hb.mono BB.out.size))
            have SL := Lib.hid (SL.out.below hb)
            have SSA := Lib.hid (SSA.out.below hb)
            have SSB := Lib.hid (SSB.out.below hb)
            have TT := Lib.hid (TT.out.below hb)
            have VM := Lib.hid (VM.out.below hb VM.out.lt)
            have VA := Lib.hid (VA.out.below hb VA.out.lt)
            have VB := Lib.hid (VB.out.below hb VB.out.lt)
            clear hb
            rw [HTM.out] at hC ⊢
            have HRC := Lib.hid (tick_ok HRA.out HT0.out)
            have SSC := Lib.hid hC.1
            clear hC
            obtain ⟨xC, hxC⟩ : ∃ l, tkE false 0 t = l := ⟨_, rfl⟩
            obtain ⟨lC, hlC⟩ : ∃ l, max (0 - t) 0 = l := ⟨_, rfl⟩
            obtain ⟨sC, hsC⟩ : ∃ l, tkS false 0 sA t = l := ⟨_, rfl⟩
            rw [hxC, hlC, hsC] at HRC ⊢
            rw [hsC] at SSC
            have HXC := Lib.hid hxC
            have HSC := Lib.hid hsC
            clear hxC hlC hsC
            obtain ⟨nC, hnnC⟩ : ∃ nn, sC.length = nn := ⟨_, rfl⟩
            have NNC := Lib.hid hnnC
            rw [hnnC]
            clear hnnC
            have hbn := bel1 w110 (.cells #[.int .u32 g, .bool xC, .int .i64 lC, .slice aC nC cC] 48)
            have VCn := MV.new w110 g xC lC aC nC cC
            have BB := Lib.hid (BB.out.trans (hbn.mono BB.out.size))
            have SL := Lib.hid (SL.out.below hbn)
            have SSA := Lib.hid (SSA.out.below hbn)
            have SSB := Lib.hid (SSB.out.below hbn)
            have SSC := Lib.hid (SSC.out.below hbn)
            have TT := Lib.hid (TT.out.below hbn)
            have VM := Lib.hid (VM.out.below hbn VM.out.lt)
            have VA := Lib.hid (VA.out.below hbn VA.out.lt)
            have VB := Lib.hid (VB.out.below hbn VB.out.lt)
            clear hbn
            have VC := Lib.hid VCn
            clear VCn
            obtain ⟨TT0, TT1⟩ := TT.out
            obtain ⟨VM0, VM1, VM2, VM3, -⟩ := VM.out.cells
            obtain ⟨VA0, VA1, VA2, VA3, -⟩ := VA.out.cells
            obtain ⟨VB0, VB1, VB2, VB3, -⟩ := VB.out.cells
            obtain ⟨VC0, VC1, VC2, VC3, -⟩ := VC.out.cells
            go_wp2_with fail
            generalize w110.alloc (.cells #[.int .u32 g, .bool xC, .int .i64 lC, .slice aC nC cC] 48) = w111 at *
            refine (mTick g true kp aB nB cB sB t _ NNB.out (by have := HRB.out.2.1; rw [NNB.out] at this; omega) SSB.out (fun y hy => by have := (HRB.out.lb.weak (lo_nn _)) y hy; omega) (by have := HRB.out.left; omega) HTB.out).mono ?_
            rintro e w112 ⟨⟨aD, cD, rfl, hD⟩, hb⟩
            clear TT0 TT1 VM0 VM1 VM2 VM3 VA0 VA1 VA2 VA3 VB0 VB1 VB2 VB3 VC0 VC1 VC2 VC3
            have BB := Lib.hid (BB.out.trans (hb.mono BB.out.size))
            have SL := Lib.hid (SL.out.below hb)
            have SSA := Lib.hid (SSA.out.below hb)
            have SSB := Lib.hid (SSB.out.below hb)
            have SSC := Lib.hid (SSC.out.below hb)
            have TT := Lib.hid (TT.out.below hb)
            have VM := Lib.hid (VM.out.below hb VM.out.lt)
            have VA := Lib.hid (VA.out.below hb VA.out.lt)
            have VB := Lib.hid (VB.out.below hb VB.out.lt)
            have VC := Lib.hid (VC.out.below hb VC.out.lt)
            clear hb
            rw [HTM.out] at hD ⊢
            have HRD := Lib.hid (tick_ok HRB.out HT0.out)
            have SSD := Lib.hid hD.1
            clear hD
            obtain ⟨xD, hxD⟩ : ∃ l, tkE true kp t = l := ⟨_, rfl⟩
            obtain ⟨lD, hlD⟩ : ∃ l, max (kp - t) 0 = l := ⟨_, rfl⟩
            obtain ⟨sD, hsD⟩ : ∃ l, tkS true kp sB t = l := ⟨_, rfl⟩
            rw [hxD, hlD, hsD] at HRD ⊢
            rw [hsD] at SSD
            have HXD := Lib.hid hxD
            have HSD := Lib.hid hsD
            clear hxD hlD hsD
            obtain ⟨nD, hnnD⟩ : ∃ nn, sD.length = nn := ⟨_, rfl⟩
            have NND := Lib.hid hnnD
            rw [hnnD]
            clear hnnD
            have hbn := bel1 w112 (.cells #[.int .u32 g, .bool xD, .int .i64 lD, .slice aD nD cD] 48)
            have VDn := MV.new w112 g xD lD aD nD cD
            have BB := Lib.hid (BB.out.trans (hbn.mono BB.out.size))
            have SL := Lib.hid (SL.out.below hbn)
            have SSA := Lib.hid (SSA.out.below hbn)
            have SSB := Lib.hid (SSB.out.below hbn)
            have SSC := Lib.hid (SSC.out.below hbn)
            have SSD := Lib.hid (SSD.out.below hbn)
            have TT := Lib.hid (TT.out.below hbn)
            have VM := Lib.hid (VM.out.below hbn VM.out.lt)
            have VA := Lib.hid (VA.out.below hbn VA.out.lt)
            have VB := Lib.hid (VB.out.below hbn VB.out.lt)
            have VC := Lib.hid (VC.out.below hbn VC.out.lt)
            clear hbn
            have VD := Lib.hid VDn
            clear VDn
            obtain ⟨nk, hnk⟩ : ∃ nk, decide (t < kp) = nk := ⟨_, rfl⟩
            have NK := Lib.hid hnk
            have FC : Hid (wantsP xC sC x = (bx && nk)) := Lib.hid (by rw [← HXC.out, ← HSC.out, ← HSA.out, ← BX.out, ← NK.out]; exact keeps_in (by have := TB.out; omega) x HT0.out)
            have FD : Hid (wantsP xD sD x = (!bx && nk)) := Lib.hid (by rw [← HXD.out, ← HSD.out, ← HSB.out, ← BX.out, ← NK.out]; exact keeps_ex (by have := MAY.out; unfold mayP at this; omega) x HT0.out)
            have FS : Hid ((xD || decide (0 < nD)) = nk) := Lib.hid (by rw [← NND.out, ← HXD.out, ← HSD.out, ← HSB.out, ← NK.out]; exact keeps_some (by have := MAY.out; unfold mayP at this; omega) HT0.out)
            cases bx
            · cases nk
              · obtain ⟨TT0, TT1⟩ := TT.out
                obtain ⟨VM0, VM1, VM2, VM3, -⟩ := VM.out.cells
                obtain ⟨VA0, VA1, VA2, VA3, -⟩ := VA.out.cells
                obtain ⟨VB0, VB1, VB2, VB3, -⟩ := VB.out.cells
                obtain ⟨VC0, VC1, VC2, VC3, -⟩ := VC.out.cells
                obtain ⟨VD0, VD1, VD2, VD3, -⟩ := VD.out.cells
                go_wp2_with fail
                generalize w112.alloc (.cells #[.int .u32 g, .bool xD, .int .i64 lD, .slice aD nD cD] 48) = w113 at *
                clear TT0 TT1 VM0 VM1 VM2 VM3 VA0 VA1 VA2 VA3 VB0 VB1 VB2 VB3 VC0 VC1 VC2 VC3 VD0 VD1 VD2 VD3
                refine wp_region_each4 (kpffV w.heap.size g x t kp xC lC aC nC cC xD lD aD nD cD) (fun W => Below w113.heap.size w113 W) (fun _ A B => Below A.heap.size A B) kpffD kpffN [79, 80, 81, 82, 83, 84, 85, 86, 87, 88, 89, 90, 91, 92, 93, 94, 95, 96, 97, 98, 99, 100, 101, 102, 103, 104, 105, 106, 107, 108, 109, 110, 111, 112, 113, 114, 115, 116, 117, 118, 119, 120, 121, 122, 123, 2] (by kernel_rfl) (by kernel_rfl) (by kernel_rfl) (Below.refl _ w113).drew
                  (fun i j oi oj v us A B hoi hoj hij hw hSA hr hv => kpff_st _ _ _ _ _ _ _ _ _ _ _ _ _ _ _ hr hv) ?hgd ?hng ?hsk
                  ⟨?_, ?_, ?_, ?_, ?_, ?_, ?_, ?_, ?_, ?_, ?_, ?_, ?_, ?_, ?_, ?_, ?_, ?_, ?_, ?_, ?_, ?_, ?_, ?_, ?_, ?_, ?_, ?_, ?_, ?_, ?_, ?_, ?_, ?_, ?_, ?_, ?_, ?_, ?_, ?_, ?_, ?_, ?_, ?_, ?_, ?_, trivial⟩ ?hend
                case hgd =>
                  intro i o g b hoi hog v us w hv
                  have hi : i < 46 := (Array.getElem?_eq_some_iff.1 hoi).1
                  have hc : i = 0 ∨ i = 1 ∨ i = 2 ∨ i = 3 ∨ i = 4 ∨ i = 5 ∨ i = 6 ∨ i = 7 ∨ i = 8 ∨ i = 9 ∨ i = 10 ∨ i = 11 ∨ i = 12 ∨ i = 13 ∨ i = 14 ∨ i = 15 ∨ i = 16 ∨ i = 17 ∨ i = 18 ∨ i = 19 ∨ i = 20 ∨ i = 21 ∨ i = 22 ∨ i = 23 ∨ i = 24 ∨ i = 25 ∨ i = 26 ∨ i = 27 ∨ i = 28 ∨ i = 29 ∨ i = 30 ∨ i = 31 ∨ i = 32 ∨ i = 33 ∨ i = 34 ∨ i = 35 ∨ i = 36 ∨ i = 37 ∨ i = 38 ∨ i = 39 ∨ i = 40 ∨ i = 41 ∨ i = 42 ∨ i = 43 ∨ i = 44 ∨ i = 45 := by omega
                  rcases hc with rfl | rfl | rfl | rfl | rfl | rfl | rfl | rfl | rfl | rfl | rfl | rfl | rfl | rfl | rfl | rfl | rfl | rfl | rfl | rfl | rfl | rfl | rfl | rfl | rfl | rfl | rfl | rfl | rfl | rfl | rfl | rfl | rfl | rfl | rfl | rfl | rfl | rfl | rfl | rfl | rfl | rfl | rfl | rfl | rfl | rfl
                  · cases hoi; cases hog
                  · cases hoi; cases hog
                  · cases hoi; cases hog; exact hv
                  · cases hoi; cases hog; exact hv
                  · cases hoi; cases hog
                  · cases hoi; cases hog
                  · cases hoi; cases hog; exact hv
                  · cases hoi; cases hog; exact hv
                  · cases hoi; cases hog
                  · cases hoi; cases hog
                  · cases hoi; cases hog; exact hv
                  · cases hoi; cases hog; exact hv
                  · cases hoi; cases hog; exact hv
                  · cases hoi; cases hog; exact hv
                  · cases hoi; cases hog; exact hv
                  · cases hoi; cases hog
                    show v ≠ _
                    rw [show v = _ from hv]
                    intro e; cases e
                  · cases hoi; cases hog
                    show v ≠ _
                    rw [show v = _ from hv]
                    intro e; cases e
                  · cases hoi; cases hog
                    show v ≠ _
                    rw [show v = _ from hv]
                    intro e; cases e
                  · cases hoi; cases hog
                    show v ≠ _
                    rw [show v = _ from hv]
                    intro e; cases e
                  · cases hoi; cases hog; exact hv
                  · cases hoi; cases hog; exact hv
                  · cases hoi; cases hog
                  · cases hoi; cases hog
                  · cases hoi; cases hog; exact hv
                  · cases hoi; cases hog; exact hv
                  · cases hoi; cases hog; exact hv
                  · cases hoi; cases hog; exact hv
                  · cases hoi; cases hog; exact hv
                  · cases hoi; cases hog; exact hv
                  · cases hoi; cases hog; exact hv
                  · cases hoi; cases hog; exact hv
                  · cases hoi; cases hog; exact hv
                  · cases hoi; cases hog; exact hv
                  · cases hoi; cases hog; exact hv
                  · cases hoi; cases hog; exact hv
                  · cases hoi; cases hog
                  · cases hoi; cases hog
                  · cases hoi; cases hog; exact hv
                  · cases hoi; cases hog; exact hv
                  · cases hoi; cases hog; exact hv
                  · cases hoi; cases hog; exact hv
                  · cases hoi; cases hog; exact hv
                  · cases hoi; cases hog; exact hv
                  · cases hoi; cases hog; exact hv
                  · cases hoi; cases hog
                  · cases hoi; cases hog
                case hng =>
                  intro i o hoi hr
                  have hi : i < 46 := (Array.getElem?_eq_some_iff.1 hoi).1
                  have hc : i = 0 ∨ i = 1 ∨ i = 2 ∨ i = 3 ∨ i = 4 ∨ i = 5 ∨ i = 6 ∨ i = 7 ∨ i = 8 ∨ i = 9 ∨ i = 10 ∨ i = 11 ∨ i = 12 ∨ i = 13 ∨ i = 14 ∨ i = 15 ∨ i = 16 ∨ i = 17 ∨ i = 18 ∨ i = 19 ∨ i = 20 ∨ i = 21 ∨ i = 22 ∨ i = 23 ∨ i = 24 ∨ i = 25 ∨ i = 26 ∨ i = 27 ∨ i = 28 ∨ i = 29 ∨ i = 30 ∨ i = 31 ∨ i = 32 ∨ i = 33 ∨ i = 34 ∨ i = 35 ∨ i = 36 ∨ i = 37 ∨ i = 38 ∨ i = 39 ∨ i = 40 ∨ i = 41 ∨ i = 42 ∨ i = 43 ∨ i = 44 ∨ i = 45 := by omega
                  rcases hc with rfl | rfl | rfl | rfl | rfl | rfl | rfl | rfl | rfl | rfl | rfl | rfl | rfl | rfl | rfl | rfl | rfl | rfl | rfl | rfl | rfl | rfl | rfl | rfl | rfl | rfl | rfl | rfl | rfl | rfl | rfl | rfl | rfl | rfl | rfl | rfl | rfl | rfl | rfl | rfl | rfl | rfl | rfl | rfl | rfl | rfl
                  · exact absurd hr (by decide)
                  · exact absurd hr (by decide)
                  · exact absurd hr (by decide)
                  · exact absurd hr (by decide)
                  · exact absurd hr (by decide)
                  · exact absurd hr (by decide)
                  · exact absurd hr (by decide)
                  · exact absurd hr (by decide)
                  · exact absurd hr (by decide)
                  · exact absurd hr (by decide)
                  · exact absurd hr (by decide)
                  · exact absurd hr (by decide)
                  · exact absurd hr (by decide)
                  · exact absurd hr (by decide)
                  · exact absurd hr (by decide)
                  · cases hoi; exact ⟨_, _, rfl⟩
                  · cases hoi; exact ⟨_, _, rfl⟩
                  · cases hoi; exact ⟨_, _, rfl⟩
                  · cases hoi; exact ⟨_, _, rfl⟩
                  · exact absurd hr (by decide)
                  · exact absurd hr (by decide)
                  · exact absurd hr (by decide)
                  · exact absurd hr (by decide)
                  · exact absurd hr (by decide)
                  · exact absurd hr (by decide)
                  · exact absurd hr (by decide)
                  · exact absurd hr (by decide)
                  · exact absurd hr (by decide)
                  · exact absurd hr (by decide)
                  · exact absurd hr (by decide)
                  · exact absurd hr (by decide)
                  · exact absurd hr (by decide)
                  · exact absurd hr (by decide)
                  · exact absurd hr (by decide)
                  · exact absurd hr (by decide)
                  · exact absurd hr (by decide)
                  · exact absurd hr (by decide)
                  · exact absurd hr (by decide)
                  · exact absurd hr (by decide)
                  · exact absurd hr (by decide)
                  · exact absurd hr (by decide)
                  · exact absurd hr (by decide)
                  · exact absurd hr (by decide)
                  · exact absurd hr (by decide)
                  · exact absurd hr (by decide)
                  · exact absurd hr (by decide)
                case hsk =>
                  intro i us w hr hS
                  by_cases hi : i < 46
                  · have hc : i = 0 ∨ i = 1 ∨ i = 2 ∨ i = 3 ∨ i = 4 ∨ i = 5 ∨ i = 6 ∨ i = 7 ∨ i = 8 ∨ i = 9 ∨ i = 10 ∨ i = 11 ∨ i = 12 ∨ i = 13 ∨ i = 14 ∨ i = 15 ∨ i = 16 ∨ i = 17 ∨ i = 18 ∨ i = 19 ∨ i = 20 ∨ i = 21 ∨ i = 22 ∨ i = 23 ∨ i = 24 ∨ i = 25 ∨ i = 26 ∨ i = 27 ∨ i = 28 ∨ i = 29 ∨ i = 30 ∨ i = 31 ∨ i = 32 ∨ i = 33 ∨ i = 34 ∨ i = 35 ∨ i = 36 ∨ i = 37 ∨ i = 38 ∨ i = 39 ∨ i = 40 ∨ i = 41 ∨ i = 42 ∨ i = 43 ∨ i = 44 ∨ i = 45 := by omega
                    rcases hc with rfl | rfl | rfl | rfl | rfl | rfl | rfl | rfl | rfl | rfl | rfl | rfl | rfl | rfl | rfl | rfl | rfl | rfl | rfl | rfl | rfl | rfl | rfl | rfl | rfl | rfl | rfl | rfl | rfl | rfl | rfl | rfl | rfl | rfl | rfl | rfl | rfl | rfl | rfl | rfl | rfl | rfl | rfl | rfl | rfl | rfl
                    · exact absurd hr (by decide)
                    · exact absurd hr (by decide)
                    · exact absurd hr (by decide)
                    · exact absurd hr (by decide)
                    · exact absurd hr (by decide)
                    · exact absurd hr (by decide)
                    · exact absurd hr (by decide)
                    · exact absurd hr (by decide)
                    · exact absurd hr (by decide)
                    · exact absurd hr (by decide)
                    · exact absurd hr (by decide)
                    · exact absurd hr (by decide)
                    · exact absurd hr (by decide)
                    · exact absurd hr (by decide)
                    · exact absurd hr (by decide)
                    · exact rfl
                    · exact rfl
                    · exact rfl
                    · exact rfl
                    · exact absurd hr (by decide)
                    · exact absurd hr (by decide)
                    · exact absurd hr (by decide)
                    · exact absurd hr (by decide)
                    · exact absurd hr (by decide)
                    · exact absurd hr (by decide)
                    · exact absurd hr (by decide)
                    · exact absurd hr (by decide)
                    · exact absurd hr (by decide)
                    · exact absurd hr (by decide)
                    · exact absurd hr (by decide)
                    · exact absurd hr (by decide)
                    · exact absurd hr (by decide)
                    · exact absurd hr (by decide)
                    · exact absurd hr (by decide)
                    · exact absurd hr (by decide)
                    · exact absurd hr (by decide)
                    · exact absurd hr (by decide)
                    · exact absurd hr (by decide)
                    · exact absurd hr (by decide)
                    · exact absurd hr (by decide)
                    · exact absurd hr (by decide)
                    · exact absurd hr (by decide)
                    · exact absurd hr (by decide)
                    · exact absurd hr (by decide)
                    · exact absurd hr (by decide)
                    · exact absurd hr (by decide)
                  · exact absurd hr (by rw [show kpffN i = true from by unfold kpffN; simp; omega]; decide)
                case refine_1 =>
                  intro hrun a' w9 hS h0 hd
                  have e8 : a'.tmps[8]?.getD undef = .bool true := vev (h0 8 (by kernel_rfl))
                  refine Does2.value (.bool true) (w' := w9) ?_ ⟨rfl, hS, Below.refl _ _⟩
                  clear hS h0 hd hrun
                  go_simp
                case refine_2 =>
                  intro hrun a' w9 hS h0 hd
                  have e79 : a'.tmps[79]?.getD undef = .bool true := vev (hd 0 List.mem_cons_self)
                  refine Does2.value (.bool true) (w' := w9) ?_ ⟨rfl, hS, Below.refl _ _⟩
                  clear hS h0 hd hrun
                  go_simp
                case refine_3 =>
                  intro hrun a' w9 hS h0 hd
                  have e12 : a'.tmps[12]?.getD undef = .int .i64 0 := vev (h0 12 (by kernel_rfl))
                  refine Does2.value (.int .i64 0) (w' := w9) ?_ ⟨rfl, hS, Below.refl _ _⟩
                  clear hS h0 hd hrun
                  go_simp
                case refine_4 =>
                  intro hrun a' w9 hS h0 hd
                  have e81 : a'.tmps[81]?.getD undef = .int .i64 0 := vev (hd 2 List.mem_cons_self)
                  refine Does2.value (.bool true) (w' := w9) ?_ ⟨rfl, hS, Below.refl _ _⟩
                  clear hS h0 hd hrun
                  go_simp
                case refine_5 =>
                  intro hrun a' w9 hS h0 hd
                  have e80 : a'.tmps[80]?.getD undef = .bool true := vev (hd 1 List.mem_cons_self)
                  have e82 : a'.tmps[82]?.getD undef = .bool true := vev (hd 3 (List.mem_cons_of_mem _ List.mem_cons_self))
                  refine Does2.value (.bool true) (w' := w9) ?_ ⟨rfl, hS, Below.refl _ _⟩
                  clear hS h0 hd hrun
                  go_simp
                case refine_6 =>
                  intro hrun a' w9 hS h0 hd
                  have e83 : a'.tmps[83]?.getD undef = .bool true := vev (hd 4 List.mem_cons_self)
                  refine Does2.value (.bool true) (w' := w9) ?_ ⟨rfl, hS, Below.refl _ _⟩
                  clear hS h0 hd hrun
                  go_simp
                case refine_7 =>
                  intro hrun a' w9 hS h0 hd
                  have e15 : a'.tmps[15]?.getD undef = .int .i64 0 := vev (h0 15 (by kernel_rfl))
                  refine Does2.value (.int .i64 0) (w' := w9) ?_ ⟨rfl, hS, Below.refl _ _⟩
                  clear hS h0 hd hrun
                  go_simp
                case refine_8 =>
                  intro hrun a' w9 hS h0 hd
                  have e85 : a'.tmps[85]?.getD undef = .int .i64 0 := vev (hd 6 List.mem_cons_self)
                  refine Does2.value (.bool true) (w' := w9) ?_ ⟨rfl, hS, Below.refl _ _⟩
                  clear hS h0 hd hrun
                  go_simp
                case refine_9 =>
                  intro hrun a' w9 hS h0 hd
                  have e84 : a'.tmps[84]?.getD undef = .bool true := vev (hd 5 List.mem_cons_self)
                  have e86 : a'.tmps[86]?.getD undef = .bool true := vev (hd 7 (List.mem_cons_of_mem _ List.mem_cons_self))
                  refine Does2.value (.bool true) (w' := w9) ?_ ⟨rfl, hS, Below.refl _ _⟩
                  clear hS h0 hd hrun
                  go_simp
                case refine_10 =>
                  intro hrun a' w9 hS h0 hd
                  have e87 : a'.tmps[87]?.getD undef = .bool true := vev (hd 8 List.mem_cons_self)
                  refine Does2.value (.bool true) (w' := w9) ?_ ⟨rfl, hS, Below.refl _ _⟩
                  clear hS h0 hd hrun
                  go_simp
                case refine_11 =>
                  intro hrun a' w9 hS h0 hd
                  have e17 : a'.tmps[17]?.getD undef = .pointer (some ⟨w110.heap.size, 0, none⟩) := vev (h0 17 (by kernel_rfl))
                  obtain ⟨y0, y1, y2, y3, -⟩ := (VC.out.below hS VC.out.lt).cells
                  refine Does2.value (.agg #[.int .u32 g, .bool xC, .int .i64 lC, .slice aC nC cC]) (w' := w9) ?_ ⟨rfl, hS, Below.refl _ _⟩
                  clear hS h0 hd hrun
                  go_simp
                case refine_12 =>
                  intro hrun a' w9 hS h0 hd
                  have e6 : a'.tmps[6]?.getD undef = .int .u32 x := vev (h0 6 (by kernel_rfl))
                  refine Does2.value (.int .u32 x) (w' := w9) ?_ ⟨rfl, hS, Below.refl _ _⟩
                  clear hS h0 hd hrun
                  go_simp
                case refine_13 =>
                  intro hrun a' w9 hS h0 hd
                  have e89 : a'.tmps[89]?.getD undef = .agg #[.int .u32 g, .bool xC, .int .i64 lC, .slice aC nC cC] := vev (hd 10 List.mem_cons_self)
                  have e90 : a'.tmps[90]?.getD undef = .int .u32 x := vev (hd 11 (List.mem_cons_of_mem _ List.mem_cons_self))
                  refine Does2.call 32 #[.agg #[.int .u32 g, .bool xC, .int .i64 lC, .slice aC nC cC], .int .u32 x] (w' := w9) ?_ ((mWants g xC lC aC nC cC sC x w9 NNC.out (by have := HRC.out.2.1; rw [NNC.out] at this; omega) (SSC.out.below hS) HRC.out.inc HRC.out.nn).mono ?_)
                  · clear hS h0 hd
                    go_simp
                  · rw [FC.out]
                    rintro e w8 ⟨rfl, hb⟩
                    exact ⟨_, rfl, rfl, hS.trans (hb.mono hS.size), hb⟩
                case refine_14 =>
                  intro hrun a' w9 hS h0 hd
                  have e16 : a'.tmps[16]?.getD undef = .bool false := vev (h0 16 (by kernel_rfl))
                  refine Does2.value (.bool false) (w' := w9) ?_ ⟨rfl, hS, Below.refl _ _⟩
                  clear hS h0 hd hrun
                  go_simp
                case refine_15 =>
                  intro hrun a' w9 hS h0 hd
                  have e92 : a'.tmps[92]?.getD undef = .bool false := vev (hd 13 List.mem_cons_self)
                  refine Does2.value (.bool false) (w' := w9) ?_ ⟨rfl, hS, Below.refl _ _⟩
                  clear hS h0 hd hrun
                  go_simp
                case refine_16 =>
                  intro hrun a' w9 hS h0 hd
                  exact absurd hrun (by decide)
                case refine_17 =>
                  intro hrun a' w9 hS h0 hd
                  exact absurd hrun (by decide)
                case refine_18 =>
                  intro hrun a' w9 hS h0 hd
                  exact absurd hrun (by decide)
                case refine_19 =>
                  intro hrun a' w9 hS h0 hd
                  exact absurd hrun (by decide)
                case refine_20 =>
                  intro hrun a' w9 hS h0 hd
                  have e93 : a'.tmps[93]?.getD undef = .bool false := vev (hd 14 List.mem_cons_self)
                  have e97 : a'.tmps[97]?.getD undef = undef := vev (hd 18 (List.mem_cons_of_mem _ List.mem_cons_self))
                  refine Does2.value (.bool false) (w' := w9) ?_ ⟨rfl, hS, Below.refl _ _⟩
                  clear hS h0 hd hrun
                  go_simp
                case refine_21 =>
                  intro hrun a' w9 hS h0 hd
                  have e91 : a'.tmps[91]?.getD undef = .bool false := vev (hd 12 List.mem_cons_self)
                  have e98 : a'.tmps[98]?.getD undef = .bool false := vev (hd 19 (List.mem_cons_of_mem _ List.mem_cons_self))
                  refine Does2.value (.bool true) (w' := w9) ?_ ⟨rfl, hS, Below.refl _ _⟩
                  clear hS h0 hd hrun
                  go_simp
                case refine_22 =>
                  intro hrun a' w9 hS h0 hd
                  have e88 : a'.tmps[88]?.getD undef = .bool true := vev (hd 9 List.mem_cons_self)
                  have e99 : a'.tmps[99]?.getD undef = .bool true := vev (hd 20 (List.mem_cons_of_mem _ List.mem_cons_self))
                  refine Does2.value (.bool true) (w' := w9) ?_ ⟨rfl, hS, Below.refl _ _⟩
                  clear hS h0 hd hrun
                  go_simp
                case refine_23 =>
                  intro hrun a' w9 hS h0 hd
                  have e100 : a'.tmps[100]?.getD undef = .bool true := vev (hd 21 List.mem_cons_self)
                  refine Does2.value (.bool true) (w' := w9) ?_ ⟨rfl, hS, Below.refl _ _⟩
                  clear hS h0 hd hrun
                  go_simp
                case refine_24 =>
                  intro hrun a' w9 hS h0 hd
                  have e18 : a'.tmps[18]?.getD undef = .pointer (some ⟨w112.heap.size, 0, none⟩) := vev (h0 18 (by kernel_rfl))
                  obtain ⟨y0, y1, y2, y3, -⟩ := (VD.out.below hS VD.out.lt).cells
                  refine Does2.value (.agg #[.int .u32 g, .bool xD, .int .i64 lD, .slice aD nD cD]) (w' := w9) ?_ ⟨rfl, hS, Below.refl _ _⟩
                  clear hS h0 hd hrun
                  go_simp
                case refine_25 =>
                  intro hrun a' w9 hS h0 hd
                  have e6 : a'.tmps[6]?.getD undef = .int .u32 x := vev (h0 6 (by kernel_rfl))
                  refine Does2.value (.int .u32 x) (w' := w9) ?_ ⟨rfl, hS, Below.refl _ _⟩
                  clear hS h0 hd hrun
                  go_simp
                case refine_26 =>
                  intro hrun a' w9 hS h0 hd
                  have e102 : a'.tmps[102]?.getD undef = .agg #[.int .u32 g, .bool xD, .int .i64 lD, .slice aD nD cD] := vev (hd 23 List.mem_cons_self)
                  have e103 : a'.tmps[103]?.getD undef = .int .u32 x := vev (hd 24 (List.mem_cons_of_mem _ List.mem_cons_self))
                  refine Does2.call 32 #[.agg #[.int .u32 g, .bool xD, .int .i64 lD, .slice aD nD cD], .int .u32 x] (w' := w9) ?_ ((mWants g xD lD aD nD cD sD x w9 NND.out (by have := HRD.out.2.1; rw [NND.out] at this; omega) (SSD.out.below hS) HRD.out.inc HRD.out.nn).mono ?_)
                  · clear hS h0 hd
                    go_simp
                  · rw [FD.out]
                    rintro e w8 ⟨rfl, hb⟩
                    exact ⟨_, rfl, rfl, hS.trans (hb.mono hS.size), hb⟩
                case refine_27 =>
                  intro hrun a' w9 hS h0 hd
                  have e16 : a'.tmps[16]?.getD undef = .bool false := vev (h0 16 (by kernel_rfl))
                  refine Does2.value (.bool false) (w' := w9) ?_ ⟨rfl, hS, Below.refl _ _⟩
                  clear hS h0 hd hrun
                  go_simp
                case refine_28 =>
                  intro hrun a' w9 hS h0 hd
                  have e105 : a'.tmps[105]?.getD undef = .bool false := vev (hd 26 List.mem_cons_self)
                  refine Does2.value (.bool true) (w' := w9) ?_ ⟨rfl, hS, Below.refl _ _⟩
                  clear hS h0 hd hrun
                  go_simp
                case refine_29 =>
                  intro hrun a' w9 hS h0 hd
                  have e106 : a'.tmps[106]?.getD undef = .bool true := vev (hd 27 List.mem_cons_self)
                  refine Does2.value (.bool true) (w' := w9) ?_ ⟨rfl, hS, Below.refl _ _⟩
                  clear hS h0 hd hrun
                  go_simp
                case refine_30 =>
                  intro hrun a' w9 hS h0 hd
                  have e7 : a'.tmps[7]?.getD undef = .int .i64 t := vev (h0 7 (by kernel_rfl))
                  refine Does2.value (.int .i64 t) (w' := w9) ?_ ⟨rfl, hS, Below.refl _ _⟩
                  clear hS h0 hd hrun
                  go_simp
                case refine_31 =>
                  intro hrun a' w9 hS h0 hd
                  have e3 : a'.tmps[3]?.getD undef = .pointer (some ⟨w.heap.size + 1, 0, none⟩) := vev (h0 3 (by kernel_rfl))
                  refine Does2.value (.pointer (some ⟨w.heap.size + 1, 0, none⟩)) (w' := w9) ?_ ⟨rfl, hS, Below.refl _ _⟩
                  clear hS h0 hd hrun
                  go_simp
                case refine_32 =>
                  intro hrun a' w9 hS h0 hd
                  have e109 : a'.tmps[109]?.getD undef = .pointer (some ⟨w.heap.size + 1, 0, none⟩) := vev (hd 30 List.mem_cons_self)
                  obtain ⟨y0, y1⟩ := TT.out.below hS
                  refine Does2.value (.int .i64 kp) (w' := w9) ?_ ⟨rfl, hS, Below.refl _ _⟩
                  clear hS h0 hd hrun
                  go_simp
                case refine_33 =>
                  intro hrun a' w9 hS h0 hd
                  have e108 : a'.tmps[108]?.getD undef = .int .i64 t := vev (hd 29 List.mem_cons_self)
                  have e110 : a'.tmps[110]?.getD undef = .int .i64 kp := vev (hd 31 (List.mem_cons_of_mem _ List.mem_cons_self))
                  have nkz : decide (t < kp) = false := NK.out
                  refine Does2.value (.bool false) (w' := w9) ?_ ⟨rfl, hS, Below.refl _ _⟩
                  clear hS h0 hd hrun
                  go_simp
                case refine_34 =>
                  intro hrun a' w9 hS h0 hd
                  have e107 : a'.tmps[107]?.getD undef = .bool true := vev (hd 28 List.mem_cons_self)
                  have e111 : a'.tmps[111]?.getD undef = .bool false := vev (hd 32 (List.mem_cons_of_mem _ List.mem_cons_self))
                  refine Does2.value (.bool false) (w' := w9) ?_ ⟨rfl, hS, Below.refl _ _⟩
                  clear hS h0 hd hrun
                  go_simp
                case refine_35 =>
                  intro hrun a' w9 hS h0 hd
                  have e104 : a'.tmps[104]?.getD undef = .bool false := vev (hd 25 List.mem_cons_self)
                  have e112 : a'.tmps[112]?.getD undef = .bool false := vev (hd 33 (List.mem_cons_of_mem _ List.mem_cons_self))
                  refine Does2.value (.bool true) (w' := w9) ?_ ⟨rfl, hS, Below.refl _ _⟩
                  clear hS h0 hd hrun
                  go_simp
                case refine_36 =>
                  intro hrun a' w9 hS h0 hd
                  have e101 : a'.tmps[101]?.getD undef = .bool true := vev (hd 22 List.mem_cons_self)
                  have e113 : a'.tmps[113]?.getD undef = .bool true := vev (hd 34 (List.mem_cons_of_mem _ List.mem_cons_self))
                  refine Does2.value (.bool true) (w' := w9) ?_ ⟨rfl, hS, Below.refl _ _⟩
                  clear hS h0 hd hrun
                  go_simp
                case refine_37 =>
                  intro hrun a' w9 hS h0 hd
                  have e114 : a'.tmps[114]?.getD undef = .bool true := vev (hd 35 List.mem_cons_self)
                  refine Does2.value (.bool true) (w' := w9) ?_ ⟨rfl, hS, Below.refl _ _⟩
                  clear hS h0 hd hrun
                  go_simp
                case refine_38 =>
                  intro hrun a' w9 hS h0 hd
                  have e18 : a'.tmps[18]?.getD undef = .pointer (some ⟨w112.heap.size, 0, none⟩) := vev (h0 18 (by kernel_rfl))
                  obtain ⟨y0, y1, y2, y3, -⟩ := (VD.out.below hS VD.out.lt).cells
                  refine Does2.value (.agg #[.int .u32 g, .bool xD, .int .i64 lD, .slice aD nD cD]) (w' := w9) ?_ ⟨rfl, hS, Below.refl _ _⟩
                  clear hS h0 hd hrun
                  go_simp
                case refine_39 =>
                  intro hrun a' w9 hS h0 hd
                  have e116 : a'.tmps[116]?.getD undef = .agg #[.int .u32 g, .bool xD, .int .i64 lD, .slice aD nD cD] := vev (hd 37 List.mem_cons_self)
                  refine Does2.call 33 #[.agg #[.int .u32 g, .bool xD, .int .i64 lD, .slice aD nD cD]] (w' := w9) ?_ ((mSome g xD lD aD nD cD w9).mono ?_)
                  · clear hS h0 hd
                    go_simp
                  · rw [FS.out]
                    rintro e w8 ⟨rfl, hb⟩
                    exact ⟨_, rfl, rfl, hS.trans (hb.mono hS.size), hb⟩
                case refine_40 =>
                  intro hrun a' w9 hS h0 hd
                  have e7 : a'.tmps[7]?.getD undef = .int .i64 t := vev (h0 7 (by kernel_rfl))
                  refine Does2.value (.int .i64 t) (w' := w9) ?_ ⟨rfl, hS, Below.refl _ _⟩
                  clear hS h0 hd hrun
                  go_simp
                case refine_41 =>
                  intro hrun a' w9 hS h0 hd
                  have e3 : a'.tmps[3]?.getD undef = .pointer (some ⟨w.heap.size + 1, 0, none⟩) := vev (h0 3 (by kernel_rfl))
                  refine Does2.value (.pointer (some ⟨w.heap.size + 1, 0, none⟩)) (w' := w9) ?_ ⟨rfl, hS, Below.refl _ _⟩
                  clear hS h0 hd hrun
                  go_simp
                case refine_42 =>
                  intro hrun a' w9 hS h0 hd
                  have e119 : a'.tmps[119]?.getD undef = .pointer (some ⟨w.heap.size + 1, 0, none⟩) := vev (hd 40 List.mem_cons_self)
                  obtain ⟨y0, y1⟩ := TT.out.below hS
                  refine Does2.value (.int .i64 kp) (w' := w9) ?_ ⟨rfl, hS, Below.refl _ _⟩
                  clear hS h0 hd hrun
                  go_simp
                case refine_43 =>
                  intro hrun a' w9 hS h0 hd
                  have e118 : a'.tmps[118]?.getD undef = .int .i64 t := vev (hd 39 List.mem_cons_self)
                  have e120 : a'.tmps[120]?.getD undef = .int .i64 kp := vev (hd 41 (List.mem_cons_of_mem _ List.mem_cons_self))
                  have nkz : decide (t < kp) = false := NK.out
                  refine Does2.value (.bool false) (w' := w9) ?_ ⟨rfl, hS, Below.refl _ _⟩
                  clear hS h0 hd hrun
                  go_simp
                case refine_44 =>
                  intro hrun a' w9 hS h0 hd
                  have e117 : a'.tmps[117]?.getD undef = .bool false := vev (hd 38 List.mem_cons_self)
                  have e121 : a'.tmps[121]?.getD undef = .bool false := vev (hd 42 (List.mem_cons_of_mem _ List.mem_cons_self))
                  refine Does2.value (.bool true) (w' := w9) ?_ ⟨rfl, hS, Below.refl _ _⟩
                  clear hS h0 hd hrun
                  go_simp
                case refine_45 =>
                  intro hrun a' w9 hS h0 hd
                  have e115 : a'.tmps[115]?.getD undef = .bool true := vev (hd 36 List.mem_cons_self)
                  have e122 : a'.tmps[122]?.getD undef = .bool true := vev (hd 43 (List.mem_cons_of_mem _ List.mem_cons_self))
                  refine Does2.value (.bool true) (w' := w9) ?_ ⟨rfl, hS, Below.refl _ _⟩
                  clear hS h0 hd hrun
                  go_simp
                case refine_46 =>
                  intro hrun a' w9 hS h0 hd
                  have e123 : a'.tmps[123]?.getD undef = .bool true := vev (hd 44 List.mem_cons_self)
                  refine Does2.value (.bool true) (w' := w9) ?_ ⟨rfl, hS, Below.refl _ _⟩
                  clear hS h0 hd hrun
                  go_simp
                case hend =>
                  intro f wE hS hv
                  have v2 := hv 45 (by decide)
                  replace v2 : f 2 = .bool true := v2
                  simp only [putAll, Act.put, List.setIfInBounds_toArray, List.set_cons_zero, List.set_cons_succ, v2]
                  have BB := Lib.hid (BB.out.trans (hS.mono BB.out.size))
                  clear hS hv v2
                  go_wp2_with fail
                  go_ret
                  exact ⟨rfl, BB.out⟩
              · obtain ⟨TT0, TT1⟩ := TT.out
                obtain ⟨VM0, VM1, VM2, VM3, -⟩ := VM.out.cells
                obtain ⟨VA0, VA1, VA2, VA3, -⟩ := VA.out.cells
                obtain ⟨VB0, VB1, VB2, VB3, -⟩ := VB.out.cells
                obtain ⟨VC0, VC1, VC2, VC3, -⟩ := VC.out.cells
                obtain ⟨VD0, VD1, VD2, VD3, -⟩ := VD.out.cells
                go_wp2_with fail
                generalize w112.alloc (.cells #[.int .u32 g, .bool xD, .int .i64 lD, .slice aD nD cD] 48) = w113 at *
                clear TT0 TT1 VM0 VM1 VM2 VM3 VA0 VA1 VA2 VA3 VB0 VB1 VB2 VB3 VC0 VC1 VC2 VC3 VD0 VD1 VD2 VD3
                refine wp_region_each4 (kpftV w.heap.size g x t kp xC lC aC nC cC xD lD aD nD cD) (fun W => Below w113.heap.size w113 W) (fun _ A B => Below A.heap.size A B) kpftD kpftN [79, 80, 81, 82, 83, 84, 85, 86, 87, 88, 89, 90, 91, 92, 93, 94, 95, 96, 97, 98, 99, 100, 101, 102, 103, 104, 105, 106, 107, 108, 109, 110, 111, 112, 113, 114, 115, 116, 117, 118, 119, 120, 121, 122, 123, 2] (by kernel_rfl) (by kernel_rfl) (by kernel_rfl) (Below.refl _ w113).drew
                  (fun i j oi oj v us A B hoi hoj hij hw hSA hr hv => kpft_st _ _ _ _ _ _ _ _ _ _ _ _ _ _ _ hr hv) ?hgd ?hng ?hsk
                  ⟨?_, ?_, ?_, ?_, ?_, ?_, ?_, ?_, ?_, ?_, ?_, ?_, ?_, ?_, ?_, ?_, ?_, ?_, ?_, ?_, ?_, ?_, ?_, ?_, ?_, ?_, ?_, ?_, ?_, ?_, ?_, ?_, ?_, ?_, ?_, ?_, ?_, ?_, ?_, ?_, ?_, ?_, ?_, ?_, ?_, ?_, trivial⟩ ?hend
                case hgd =>
                  intro i o g b hoi hog v us w hv
                  have hi : i < 46 := (Array.getElem?_eq_some_iff.1 hoi).1
                  have hc : i = 0 ∨ i = 1 ∨ i = 2 ∨ i = 3 ∨ i = 4 ∨ i = 5 ∨ i = 6 ∨ i = 7 ∨ i = 8 ∨ i = 9 ∨ i = 10 ∨ i = 11 ∨ i = 12 ∨ i = 13 ∨ i = 14 ∨ i = 15 ∨ i = 16 ∨ i = 17 ∨ i = 18 ∨ i = 19 ∨ i = 20 ∨ i = 21 ∨ i = 22 ∨ i = 23 ∨ i = 24 ∨ i = 25 ∨ i = 26 ∨ i = 27 ∨ i = 28 ∨ i = 29 ∨ i = 30 ∨ i = 31 ∨ i = 32 ∨ i = 33 ∨ i = 34 ∨ i = 35 ∨ i = 36 ∨ i = 37 ∨ i = 38 ∨ i = 39 ∨ i = 40 ∨ i = 41 ∨ i = 42 ∨ i = 43 ∨ i = 44 ∨ i = 45 := by omega
                  rcases hc with rfl | rfl | rfl | rfl | rfl | rfl | rfl | rfl | rfl | rfl | rfl | rfl | rfl | rfl | rfl | rfl | rfl | rfl | rfl | rfl | rfl | rfl | rfl | rfl | rfl | rfl | rfl | rfl | rfl | rfl | rfl | rfl | rfl | rfl | rfl | rfl | rfl | rfl | rfl | rfl | rfl | rfl | rfl | rfl | rfl | rfl
                  · cases hoi; cases hog
                  · cases hoi; cases hog
                  · cases hoi; cases hog; exact hv
                  · cases hoi; cases hog; exact hv
                  · cases hoi; cases hog
                  · cases hoi; cases hog
                  · cases hoi; cases hog; exact hv
                  · cases hoi; cases hog; exact hv
                  · cases hoi; cases hog
                  · cases hoi; cases hog
                  · cases hoi; cases hog; exact hv
                  · cases hoi; cases hog; exact hv
                  · cases hoi; cases hog; exact hv
                  · cases hoi; cases hog; exact hv
                  · cases hoi; cases hog; exact hv
                  · cases hoi; cases hog
                    show v ≠ _
                    rw [show v = _ from hv]
                    intro e; cases e
                  · cases hoi; cases hog
                    show v ≠ _
                    rw [show v = _ from hv]
                    intro e; cases e
                  · cases hoi; cases hog
                    show v ≠ _
                    rw [show v = _ from hv]
                    intro e; cases e
                  · cases hoi; cases hog
                    show v ≠ _
                    rw [show v = _ from hv]
                    intro e; cases e
                  · cases hoi; cases hog; exact hv
                  · cases hoi; cases hog; exact hv
                  · cases hoi; cases hog
                  · cases hoi; cases hog
                  · cases hoi; cases hog; exact hv
                  · cases hoi; cases hog; exact hv
                  · cases hoi; cases hog; exact hv
                  · cases hoi; cases hog; exact hv
                  · cases hoi; cases hog; exact hv
                  · cases hoi; cases hog; exact hv
                  · cases hoi; cases hog; exact hv
                  · cases hoi; cases hog; exact hv
                  · cases hoi; cases hog; exact hv
                  · cases hoi; cases hog; exact hv
                  · cases hoi; cases hog; exact hv
                  · cases hoi; cases hog; exact hv
                  · cases hoi; cases hog
                  · cases hoi; cases hog
                  · cases hoi; cases hog; exact hv
                  · cases hoi; cases hog; exact hv
                  · cases hoi; cases hog; exact hv
                  · cases hoi; cases hog; exact hv
                  · cases hoi; cases hog; exact hv
                  · cases hoi; cases hog; exact hv
                  · cases hoi; cases hog; exact hv
                  · cases hoi; cases hog
                  · cases hoi; cases hog
                case hng =>
                  intro i o hoi hr
                  have hi : i < 46 := (Array.getElem?_eq_some_iff.1 hoi).1
                  have hc : i = 0 ∨ i = 1 ∨ i = 2 ∨ i = 3 ∨ i = 4 ∨ i = 5 ∨ i = 6 ∨ i = 7 ∨ i = 8 ∨ i = 9 ∨ i = 10 ∨ i = 11 ∨ i = 12 ∨ i = 13 ∨ i = 14 ∨ i = 15 ∨ i = 16 ∨ i = 17 ∨ i = 18 ∨ i = 19 ∨ i = 20 ∨ i = 21 ∨ i = 22 ∨ i = 23 ∨ i = 24 ∨ i = 25 ∨ i = 26 ∨ i = 27 ∨ i = 28 ∨ i = 29 ∨ i = 30 ∨ i = 31 ∨ i = 32 ∨ i = 33 ∨ i = 34 ∨ i = 35 ∨ i = 36 ∨ i = 37 ∨ i = 38 ∨ i = 39 ∨ i = 40 ∨ i = 41 ∨ i = 42 ∨ i = 43 ∨ i = 44 ∨ i = 45 := by omega
                  rcases hc with rfl | rfl | rfl | rfl | rfl | rfl | rfl | rfl | rfl | rfl | rfl | rfl | rfl | rfl | rfl | rfl | rfl | rfl | rfl | rfl | rfl | rfl | rfl | rfl | rfl | rfl | rfl | rfl | rfl | rfl | rfl | rfl | rfl | rfl | rfl | rfl | rfl | rfl | rfl | rfl | rfl | rfl | rfl | rfl | rfl | rfl
                  · exact absurd hr (by decide)
                  · exact absurd hr (by decide)
                  · exact absurd hr (by decide)
                  · exact absurd hr (by decide)
                  · exact absurd hr (by decide)
                  · exact absurd hr (by decide)
                  · exact absurd hr (by decide)
                  · exact absurd hr (by decide)
                  · exact absurd hr (by decide)
                  · exact absurd hr (by decide)
                  · exact absurd hr (by decide)
                  · exact absurd hr (by decide)
                  · exact absurd hr (by decide)
                  · exact absurd hr (by decide)
                  · exact absurd hr (by decide)
                  · cases hoi; exact ⟨_, _, rfl⟩
                  · cases hoi; exact ⟨_, _, rfl⟩
                  · cases hoi; exact ⟨_, _, rfl⟩
                  · cases hoi; exact ⟨_, _, rfl⟩
                  · exact absurd hr (by decide)
                  · exact absurd hr (by decide)
                  · exact absurd hr (by decide)
                  · exact absurd hr (by decide)
                  · exact absurd hr (by decide)
                  · exact absurd hr (by decide)
                  · exact absurd hr (by decide)
                  · exact absurd hr (by decide)
                  · exact absurd hr (by decide)
                  · exact absurd hr (by decide)
                  · exact absurd hr (by decide)
                  · exact absurd hr (by decide)
                  · exact absurd hr (by decide)
                  · exact absurd hr (by decide)
                  · exact absurd hr (by decide)
                  · exact absurd hr (by decide)
                  · exact absurd hr (by decide)
                  · exact absurd hr (by decide)
                  · exact absurd hr (by decide)
                  · exact absurd hr (by decide)
                  · exact absurd hr (by decide)
                  · exact absurd hr (by decide)
                  · exact absurd hr (by decide)
                  · exact absurd hr (by decide)
                  · exact absurd hr (by decide)
                  · exact absurd hr (by decide)
                  · exact absurd hr (by decide)
                case hsk =>
                  intro i us w hr hS
                  by_cases hi : i < 46
                  · have hc : i = 0 ∨ i = 1 ∨ i = 2 ∨ i = 3 ∨ i = 4 ∨ i = 5 ∨ i = 6 ∨ i = 7 ∨ i = 8 ∨ i = 9 ∨ i = 10 ∨ i = 11 ∨ i = 12 ∨ i = 13 ∨ i = 14 ∨ i = 15 ∨ i = 16 ∨ i = 17 ∨ i = 18 ∨ i = 19 ∨ i = 20 ∨ i = 21 ∨ i = 22 ∨ i = 23 ∨ i = 24 ∨ i = 25 ∨ i = 26 ∨ i = 27 ∨ i = 28 ∨ i = 29 ∨ i = 30 ∨ i = 31 ∨ i = 32 ∨ i = 33 ∨ i = 34 ∨ i = 35 ∨ i = 36 ∨ i = 37 ∨ i = 38 ∨ i = 39 ∨ i = 40 ∨ i = 41 ∨ i = 42 ∨ i = 43 ∨ i = 44 ∨ i = 45 := by omega
                    rcases hc with rfl | rfl | rfl | rfl | rfl | rfl | rfl | rfl | rfl | rfl | rfl | rfl | rfl | rfl | rfl | rfl | rfl | rfl | rfl | rfl | rfl | rfl | rfl | rfl | rfl | rfl | rfl | rfl | rfl | rfl | rfl | rfl | rfl | rfl | rfl | rfl | rfl | rfl | rfl | rfl | rfl | rfl | rfl | rfl | rfl | rfl
                    · exact absurd hr (by decide)
                    · exact absurd hr (by decide)
                    · exact absurd hr (by decide)
                    · exact absurd hr (by decide)
                    · exact absurd hr (by decide)
                    · exact absurd hr (by decide)
                    · exact absurd hr (by decide)
                    · exact absurd hr (by decide)
                    · exact absurd hr (by decide)
                    · exact absurd hr (by decide)
                    · exact absurd hr (by decide)
                    · exact absurd hr (by decide)
                    · exact absurd hr (by decide)
                    · exact absurd hr (by decide)
                    · exact absurd hr (by decide)
                    · exact rfl
                    · exact rfl
                    · exact rfl
                    · exact rfl
                    · exact absurd hr (by decide)
                    · exact absurd hr (by decide)
                    · exact absurd hr (by decide)
                    · exact absurd hr (by decide)
                    · exact absurd hr (by decide)
                    · exact absurd hr (by decide)
                    · exact absurd hr (by decide)
                    · exact absurd hr (by decide)
                    · exact absurd hr (by decide)
                    · exact absurd hr (by decide)
                    · exact absurd hr (by decide)
                    · exact absurd hr (by decide)
                    · exact absurd hr (by decide)
                    · exact absurd hr (by decide)
                    · exact absurd hr (by decide)
                    · exact absurd hr (by decide)
                    · exact absurd hr (by decide)
                    · exact absurd hr (by decide)
                    · exact absurd hr (by decide)
                    · exact absurd hr (by decide)
                    · exact absurd hr (by decide)
                    · exact absurd hr (by decide)
                    · exact absurd hr (by decide)
                    · exact absurd hr (by decide)
                    · exact absurd hr (by decide)
                    · exact absurd hr (by decide)
                    · exact absurd hr (by decide)
                  · exact absurd hr (by rw [show kpftN i = true from by unfold kpftN; simp; omega]; decide)
                case refine_1 =>
                  intro hrun a' w9 hS h0 hd
                  have e8 : a'.tmps[8]?.getD undef = .bool true := vev (h0 8 (by kernel_rfl))
                  refine Does2.value (.bool true) (w' := w9) ?_ ⟨rfl, hS, Below.refl _ _⟩
                  clear hS h0 hd hrun
                  go_simp
                case refine_2 =>
                  intro hrun a' w9 hS h0 hd
                  have e79 : a'.tmps[79]?.getD undef = .bool true := vev (hd 0 List.mem_cons_self)
                  refine Does2.value (.bool true) (w' := w9) ?_ ⟨rfl, hS, Below.refl _ _⟩
                  clear hS h0 hd hrun
                  go_simp
                case refine_3 =>
                  intro hrun a' w9 hS h0 hd
                  have e12 : a'.tmps[12]?.getD undef = .int .i64 0 := vev (h0 12 (by kernel_rfl))
                  refine Does2.value (.int .i64 0) (w' := w9) ?_ ⟨rfl, hS, Below.refl _ _⟩
                  clear hS h0 hd hrun
                  go_simp
                case refine_4 =>
                  intro hrun a' w9 hS h0 hd
                  have e81 : a'.tmps[81]?.getD undef = .int .i64 0 := vev (hd 2 List.mem_cons_self)
                  refine Does2.value (.bool true) (w' := w9) ?_ ⟨rfl, hS, Below.refl _ _⟩
                  clear hS h0 hd hrun
                  go_simp
                case refine_5 =>
                  intro hrun a' w9 hS h0 hd
                  have e80 : a'.tmps[80]?.getD undef = .bool true := vev (hd 1 List.mem_cons_self)
                  have e82 : a'.tmps[82]?.getD undef = .bool true := vev (hd 3 (List.mem_cons_of_mem _ List.mem_cons_self))
                  refine Does2.value (.bool true) (w' := w9) ?_ ⟨rfl, hS, Below.refl _ _⟩
                  clear hS h0 hd hrun
                  go_simp
                case refine_6 =>
                  intro hrun a' w9 hS h0 hd
                  have e83 : a'.tmps[83]?.getD undef = .bool true := vev (hd 4 List.mem_cons_self)
                  refine Does2.value (.bool true) (w' := w9) ?_ ⟨rfl, hS, Below.refl _ _⟩
                  clear hS h0 hd hrun
                  go_simp
                case refine_7 =>
                  intro hrun a' w9 hS h0 hd
                  have e15 : a'.tmps[15]?.getD undef = .int .i64 0 := vev (h0 15 (by kernel_rfl))
                  refine Does2.value (.int .i64 0) (w' := w9) ?_ ⟨rfl, hS, Below.refl _ _⟩
                  clear hS h0 hd hrun
                  go_simp
                case refine_8 =>
                  intro hrun a' w9 hS h0 hd
                  have e85 : a'.tmps[85]?.getD undef = .int .i64 0 := vev (hd 6 List.mem_cons_self)
                  refine Does2.value (.bool true) (w' := w9) ?_ ⟨rfl, hS, Below.refl _ _⟩
                  clear hS h0 hd hrun
                  go_simp
                case refine_9 =>
                  intro hrun a' w9 hS h0 hd
                  have e84 : a'.tmps[84]?.getD undef = .bool true := vev (hd 5 List.mem_cons_self)
                  have e86 : a'.tmps[86]?.getD undef = .bool true := vev (hd 7 (List.mem_cons_of_mem _ List.mem_cons_self))
                  refine Does2.value (.bool true) (w' := w9) ?_ ⟨rfl, hS, Below.refl _ _⟩
                  clear hS h0 hd hrun
                  go_simp
                case refine_10 =>
                  intro hrun a' w9 hS h0 hd
                  have e87 : a'.tmps[87]?.getD undef = .bool true := vev (hd 8 List.mem_cons_self)
                  refine Does2.value (.bool true) (w' := w9) ?_ ⟨rfl, hS, Below.refl _ _⟩
                  clear hS h0 hd hrun
                  go_simp
                case refine_11 =>
                  intro hrun a' w9 hS h0 hd
                  have e17 : a'.tmps[17]?.getD undef = .pointer (some ⟨w110.heap.size, 0, none⟩) := vev (h0 17 (by kernel_rfl))
                  obtain ⟨y0, y1, y2, y3, -⟩ := (VC.out.below hS VC.out.lt).cells
                  refine Does2.value (.agg #[.int .u32 g, .bool xC, .int .i64 lC, .slice aC nC cC]) (w' := w9) ?_ ⟨rfl, hS, Below.refl _ _⟩
                  clear hS h0 hd hrun
                  go_simp
                case refine_12 =>
                  intro hrun a' w9 hS h0 hd
                  have e6 : a'.tmps[6]?.getD undef = .int .u32 x := vev (h0 6 (by kernel_rfl))
                  refine Does2.value (.int .u32 x) (w' := w9) ?_ ⟨rfl, hS, Below.refl _ _⟩
                  clear hS h0 hd hrun
                  go_simp
                case refine_13 =>
                  intro hrun a' w9 hS h0 hd
                  have e89 : a'.tmps[89]?.getD undef = .agg #[.int .u32 g, .bool xC, .int .i64 lC, .slice aC nC cC] := vev (hd 10 List.mem_cons_self)
                  have e90 : a'.tmps[90]?.getD undef = .int .u32 x := vev (hd 11 (List.mem_cons_of_mem _ List.mem_cons_self))
                  refine Does2.call 32 #[.agg #[.int .u32 g, .bool xC, .int .i64 lC, .slice aC nC cC], .int .u32 x] (w' := w9) ?_ ((mWants g xC lC aC nC cC sC x w9 NNC.out (by have := HRC.out.2.1; rw [NNC.out] at this; omega) (SSC.out.below hS) HRC.out.inc HRC.out.nn).mono ?_)
                  · clear hS h0 hd
                    go_simp
                  · rw [FC.out]
                    rintro e w8 ⟨rfl, hb⟩
                    exact ⟨_, rfl, rfl, hS.trans (hb.mono hS.size), hb⟩
                case refine_14 =>
                  intro hrun a' w9 hS h0 hd
                  have e16 : a'.tmps[16]?.getD undef = .bool false := vev (h0 16 (by kernel_rfl))
                  refine Does2.value (.bool false) (w' := w9) ?_ ⟨rfl, hS, Below.refl _ _⟩
                  clear hS h0 hd hrun
                  go_simp
                case refine_15 =>
                  intro hrun a' w9 hS h0 hd
                  have e92 : a'.tmps[92]?.getD undef = .bool false := vev (hd 13 List.mem_cons_self)
                  refine Does2.value (.bool false) (w' := w9) ?_ ⟨rfl, hS, Below.refl _ _⟩
                  clear hS h0 hd hrun
                  go_simp
                case refine_16 =>
                  intro hrun a' w9 hS h0 hd
                  exact absurd hrun (by decide)
                case refine_17 =>
                  intro hrun a' w9 hS h0 hd
                  exact absurd hrun (by decide)
                case refine_18 =>
                  intro hrun a' w9 hS h0 hd
                  exact absurd hrun (by decide)
                case refine_19 =>
                  intro hrun a' w9 hS h0 hd
                  exact absurd hrun (by decide)
                case refine_20 =>
                  intro hrun a' w9 hS h0 hd
                  have e93 : a'.tmps[93]?.getD undef = .bool false := vev (hd 14 List.mem_cons_self)
                  have e97 : a'.tmps[97]?.getD undef = undef := vev (hd 18 (List.mem_cons_of_mem _ List.mem_cons_self))
                  refine Does2.value (.bool false) (w' := w9) ?_ ⟨rfl, hS, Below.refl _ _⟩
                  clear hS h0 hd hrun
                  go_simp
                case refine_21 =>
                  intro hrun a' w9 hS h0 hd
                  have e91 : a'.tmps[91]?.getD undef = .bool false := vev (hd 12 List.mem_cons_self)
                  have e98 : a'.tmps[98]?.getD undef = .bool false := vev (hd 19 (List.mem_cons_of_mem _ List.mem_cons_self))
                  refine Does2.value (.bool true) (w' := w9) ?_ ⟨rfl, hS, Below.refl _ _⟩
                  clear hS h0 hd hrun
                  go_simp
                case refine_22 =>
                  intro hrun a' w9 hS h0 hd
                  have e88 : a'.tmps[88]?.getD undef = .bool true := vev (hd 9 List.mem_cons_self)
                  have e99 : a'.tmps[99]?.getD undef = .bool true := vev (hd 20 (List.mem_cons_of_mem _ List.mem_cons_self))
                  refine Does2.value (.bool true) (w' := w9) ?_ ⟨rfl, hS, Below.refl _ _⟩
                  clear hS h0 hd hrun
                  go_simp
                case refine_23 =>
                  intro hrun a' w9 hS h0 hd
                  have e100 : a'.tmps[100]?.getD undef = .bool true := vev (hd 21 List.mem_cons_self)
                  refine Does2.value (.bool true) (w' := w9) ?_ ⟨rfl, hS, Below.refl _ _⟩
                  clear hS h0 hd hrun
                  go_simp
                case refine_24 =>
                  intro hrun a' w9 hS h0 hd
                  have e18 : a'.tmps[18]?.getD undef = .pointer (some ⟨w112.heap.size, 0, none⟩) := vev (h0 18 (by kernel_rfl))
                  obtain ⟨y0, y1, y2, y3, -⟩ := (VD.out.below hS VD.out.lt).cells
                  refine Does2.value (.agg #[.int .u32 g, .bool xD, .int .i64 lD, .slice aD nD cD]) (w' := w9) ?_ ⟨rfl, hS, Below.refl _ _⟩
                  clear hS h0 hd hrun
                  go_simp
                case refine_25 =>
                  intro hrun a' w9 hS h0 hd
                  have e6 : a'.tmps[6]?.getD undef = .int .u32 x := vev (h0 6 (by kernel_rfl))
                  refine Does2.value (.int .u32 x) (w' := w9) ?_ ⟨rfl, hS, Below.refl _ _⟩
                  clear hS h0 hd hrun
                  go_simp
                case refine_26 =>
                  intro hrun a' w9 hS h0 hd
                  have e102 : a'.tmps[102]?.getD undef = .agg #[.int .u32 g, .bool xD, .int .i64 lD, .slice aD nD cD] := vev (hd 23 List.mem_cons_self)
                  have e103 : a'.tmps[103]?.getD undef = .int .u32 x := vev (hd 24 (List.mem_cons_of_mem _ List.mem_cons_self))
                  refine Does2.call 32 #[.agg #[.int .u32 g, .bool xD, .int .i64 lD, .slice aD nD cD], .int .u32 x] (w' := w9) ?_ ((mWants g xD lD aD nD cD sD x w9 NND.out (by have := HRD.out.2.1; rw [NND.out] at this; omega) (SSD.out.below hS) HRD.out.inc HRD.out.nn).mono ?_)
                  · clear hS h0 hd
                    go_simp
                  · rw [FD.out]
                    rintro e w8 ⟨rfl, hb⟩
                    exact ⟨_, rfl, rfl, hS.trans (hb.mono hS.size), hb⟩
                case refine_27 =>
                  intro hrun a' w9 hS h0 hd
                  have e16 : a'.tmps[16]?.getD undef = .bool false := vev (h0 16 (by kernel_rfl))
                  refine Does2.value (.bool false) (w' := w9) ?_ ⟨rfl, hS, Below.refl _ _⟩
                  clear hS h0 hd hrun
                  go_simp
                case refine_28 =>
                  intro hrun a' w9 hS h0 hd
                  have e105 : a'.tmps[105]?.getD undef = .bool false := vev (hd 26 List.mem_cons_self)
                  refine Does2.value (.bool true) (w' := w9) ?_ ⟨rfl, hS, Below.refl _ _⟩
                  clear hS h0 hd hrun
                  go_simp
                case refine_29 =>
                  intro hrun a' w9 hS h0 hd
                  have e106 : a'.tmps[106]?.getD undef = .bool true := vev (hd 27 List.mem_cons_self)
                  refine Does2.value (.bool true) (w' := w9) ?_ ⟨rfl, hS, Below.refl _ _⟩
                  clear hS h0 hd hrun
                  go_simp
                case refine_30 =>
                  intro hrun a' w9 hS h0 hd
                  have e7 : a'.tmps[7]?.getD undef = .int .i64 t := vev (h0 7 (by kernel_rfl))
                  refine Does2.value (.int .i64 t) (w' := w9) ?_ ⟨rfl, hS, Below.refl _ _⟩
                  clear hS h0 hd hrun
                  go_simp
                case refine_31 =>
                  intro hrun a' w9 hS h0 hd
                  have e3 : a'.tmps[3]?.getD undef = .pointer (some ⟨w.heap.size + 1, 0, none⟩) := vev (h0 3 (by kernel_rfl))
                  refine Does2.value (.pointer (some ⟨w.heap.size + 1, 0, none⟩)) (w' := w9) ?_ ⟨rfl, hS, Below.refl _ _⟩
                  clear hS h0 hd hrun
                  go_simp
                case refine_32 =>
                  intro hrun a' w9 hS h0 hd
                  have e109 : a'.tmps[109]?.getD undef = .pointer (some ⟨w.heap.size + 1, 0, none⟩) := vev (hd 30 List.mem_cons_self)
                  obtain ⟨y0, y1⟩ := TT.out.below hS
                  refine Does2.value (.int .i64 kp) (w' := w9) ?_ ⟨rfl, hS, Below.refl _ _⟩
                  clear hS h0 hd hrun
                  go_simp
                case refine_33 =>
                  intro hrun a' w9 hS h0 hd
                  have e108 : a'.tmps[108]?.getD undef = .int .i64 t := vev (hd 29 List.mem_cons_self)
                  have e110 : a'.tmps[110]?.getD undef = .int .i64 kp := vev (hd 31 (List.mem_cons_of_mem _ List.mem_cons_self))
                  have nkz : decide (t < kp) = true := NK.out
                  refine Does2.value (.bool true) (w' := w9) ?_ ⟨rfl, hS, Below.refl _ _⟩
                  clear hS h0 hd hrun
                  go_simp
                case refine_34 =>
                  intro hrun a' w9 hS h0 hd
                  have e107 : a'.tmps[107]?.getD undef = .bool true := vev (hd 28 List.mem_cons_self)
                  have e111 : a'.tmps[111]?.getD undef = .bool true := vev (hd 32 (List.mem_cons_of_mem _ List.mem_cons_self))
                  refine Does2.value (.bool true) (w' := w9) ?_ ⟨rfl, hS, Below.refl _ _⟩
                  clear hS h0 hd hrun
                  go_simp
                case refine_35 =>
                  intro hrun a' w9 hS h0 hd
                  have e104 : a'.tmps[104]?.getD undef = .bool true := vev (hd 25 List.mem_cons_self)
                  have e112 : a'.tmps[112]?.getD undef = .bool true := vev (hd 33 (List.mem_cons_of_mem _ List.mem_cons_self))
                  refine Does2.value (.bool true) (w' := w9) ?_ ⟨rfl, hS, Below.refl _ _⟩
                  clear hS h0 hd hrun
                  go_simp
                case refine_36 =>
                  intro hrun a' w9 hS h0 hd
                  have e101 : a'.tmps[101]?.getD undef = .bool true := vev (hd 22 List.mem_cons_self)
                  have e113 : a'.tmps[113]?.getD undef = .bool true := vev (hd 34 (List.mem_cons_of_mem _ List.mem_cons_self))
                  refine Does2.value (.bool true) (w' := w9) ?_ ⟨rfl, hS, Below.refl _ _⟩
                  clear hS h0 hd hrun
                  go_simp
                case refine_37 =>
                  intro hrun a' w9 hS h0 hd
                  have e114 : a'.tmps[114]?.getD undef = .bool true := vev (hd 35 List.mem_cons_self)
                  refine Does2.value (.bool true) (w' := w9) ?_ ⟨rfl, hS, Below.refl _ _⟩
                  clear hS h0 hd hrun
                  go_simp
                case refine_38 =>
                  intro hrun a' w9 hS h0 hd
                  have e18 : a'.tmps[18]?.getD undef = .pointer (some ⟨w112.heap.size, 0, none⟩) := vev (h0 18 (by kernel_rfl))
                  obtain ⟨y0, y1, y2, y3, -⟩ := (VD.out.below hS VD.out.lt).cells
                  refine Does2.value (.agg #[.int .u32 g, .bool xD, .int .i64 lD, .slice aD nD cD]) (w' := w9) ?_ ⟨rfl, hS, Below.refl _ _⟩
                  clear hS h0 hd hrun
                  go_simp
                case refine_39 =>
                  intro hrun a' w9 hS h0 hd
                  have e116 : a'.tmps[116]?.getD undef = .agg #[.int .u32 g, .bool xD, .int .i64 lD, .slice aD nD cD] := vev (hd 37 List.mem_cons_self)
                  refine Does2.call 33 #[.agg #[.int .u32 g, .bool xD, .int .i64 lD, .slice aD nD cD]] (w' := w9) ?_ ((mSome g xD lD aD nD cD w9).mono ?_)
                  · clear hS h0 hd
                    go_simp
                  · rw [FS.out]
                    rintro e w8 ⟨rfl, hb⟩
                    exact ⟨_, rfl, rfl, hS.trans (hb.mono hS.size), hb⟩
                case refine_40 =>
                  intro hrun a' w9 hS h0 hd
                  have e7 : a'.tmps[7]?.getD undef = .int .i64 t := vev (h0 7 (by kernel_rfl))
                  refine Does2.value (.int .i64 t) (w' := w9) ?_ ⟨rfl, hS, Below.refl _ _⟩
                  clear hS h0 hd hrun
                  go_simp
                case refine_41 =>
                  intro hrun a' w9 hS h0 hd
                  have e3 : a'.tmps[3]?.getD undef = .pointer (some ⟨w.heap.size + 1, 0, none⟩) := vev (h0 3 (by kernel_rfl))
                  refine Does2.value (.pointer (some ⟨w.heap.size + 1, 0, none⟩)) (w' := w9) ?_ ⟨rfl, hS, Below.refl _ _⟩
                  clear hS h0 hd hrun
                  go_simp
                case refine_42 =>
                  intro hrun a' w9 hS h0 hd
                  have e119 : a'.tmps[119]?.getD undef = .pointer (some ⟨w.heap.size + 1, 0, none⟩) := vev (hd 40 List.mem_cons_self)
                  obtain ⟨y0, y1⟩ := TT.out.below hS
                  refine Does2.value (.int .i64 kp) (w' := w9) ?_ ⟨rfl, hS, Below.refl _ _⟩
                  clear hS h0 hd hrun
                  go_simp
                case refine_43 =>
                  intro hrun a' w9 hS h0 hd
                  have e118 : a'.tmps[118]?.getD undef = .int .i64 t := vev (hd 39 List.mem_cons_self)
                  have e120 : a'.tmps[120]?.getD undef = .int .i64 kp := vev (hd 41 (List.mem_cons_of_mem _ List.mem_cons_self))
                  have nkz : decide (t < kp) = true := NK.out
                  refine Does2.value (.bool true) (w' := w9) ?_ ⟨rfl, hS, Below.refl _ _⟩
                  clear hS h0 hd hrun
                  go_simp
                case refine_44 =>
                  intro hrun a' w9 hS h0 hd
                  have e117 : a'.tmps[117]?.getD undef = .bool true := vev (hd 38 List.mem_cons_self)
                  have e121 : a'.tmps[121]?.getD undef = .bool true := vev (hd 42 (List.mem_cons_of_mem _ List.mem_cons_self))
                  refine Does2.value (.bool true) (w' := w9) ?_ ⟨rfl, hS, Below.refl _ _⟩
                  clear hS h0 hd hrun
                  go_simp
                case refine_45 =>
                  intro hrun a' w9 hS h0 hd
                  have e115 : a'.tmps[115]?.getD undef = .bool true := vev (hd 36 List.mem_cons_self)
                  have e122 : a'.tmps[122]?.getD undef = .bool true := vev (hd 43 (List.mem_cons_of_mem _ List.mem_cons_self))
                  refine Does2.value (.bool true) (w' := w9) ?_ ⟨rfl, hS, Below.refl _ _⟩
                  clear hS h0 hd hrun
                  go_simp
                case refine_46 =>
                  intro hrun a' w9 hS h0 hd
                  have e123 : a'.tmps[123]?.getD undef = .bool true := vev (hd 44 List.mem_cons_self)
                  refine Does2.value (.bool true) (w' := w9) ?_ ⟨rfl, hS, Below.refl _ _⟩
                  clear hS h0 hd hrun
                  go_simp
                case hend =>
                  intro f wE hS hv
                  have v2 := hv 45 (by decide)
                  replace v2 : f 2 = .bool true := v2
                  simp only [putAll, Act.put, List.setIfInBounds_toArray, List.set_cons_zero, List.set_cons_succ, v2]
                  have BB := Lib.hid (BB.out.trans (hS.mono BB.out.size))
                  clear hS hv v2
                  go_wp2_with fail
                  go_ret
                  exact ⟨rfl, BB.out⟩
            · cases nk
              · obtain ⟨TT0, TT1⟩ := TT.out
                obtain ⟨VM0, VM1, VM2, VM3, -⟩ := VM.out.cells
                obtain ⟨VA0, VA1, VA2, VA3, -⟩ := VA.out.cells
                obtain ⟨VB0, VB1, VB2, VB3, -⟩ := VB.out.cells
                obtain ⟨VC0, VC1, VC2, VC3, -⟩ := VC.out.cells
                obtain ⟨VD0, VD1, VD2, VD3, -⟩ := VD.out.cells
                go_wp2_with fail
                generalize w112.alloc (.cells #[.int .u32 g, .bool xD, .int .i64 lD, .slice aD nD cD] 48) = w113 at *
                clear TT0 TT1 VM0 VM1 VM2 VM3 VA0 VA1 VA2 VA3 VB0 VB1 VB2 VB3 VC0 VC1 VC2 VC3 VD0 VD1 VD2 VD3
                refine wp_region_each4 (kptfV w.heap.size g x t kp xC lC aC nC cC xD lD aD nD cD) (fun W => Below w113.heap.size w113 W) (fun _ A B => Below A.heap.size A B) kptfD kptfN [79, 80, 81, 82, 83, 84, 85, 86, 87, 88, 89, 90, 91, 92, 93, 94, 95, 96, 97, 98, 99, 100, 101, 102, 103, 104, 105, 106, 107, 108, 109, 110, 111, 112, 113, 114, 115, 116, 117, 118, 119, 120, 121, 122, 123, 2] (by kernel_rfl) (by kernel_rfl) (by kernel_rfl) (Below.refl _ w113).drew
                  (fun i j oi oj v us A B hoi hoj hij hw hSA hr hv => kptf_st _ _ _ _ _ _ _ _ _ _ _ _ _ _ _ hr hv) ?hgd ?hng ?hsk
                  ⟨?_, ?_, ?_, ?_, ?_, ?_, ?_, ?_, ?_, ?_, ?_, ?_, ?_, ?_, ?_, ?_, ?_, ?_, ?_, ?_, ?_, ?_, ?_, ?_, ?_, ?_, ?_, ?_, ?_, ?_, ?_, ?_, ?_, ?_, ?_, ?_, ?_, ?_, ?_, ?_, ?_, ?_, ?_, ?_, ?_, ?_, trivial⟩ ?hend
                case hgd =>
                  intro i o g b hoi hog v us w hv
                  have hi : i < 46 := (Array.getElem?_eq_some_iff.1 hoi).1
                  have hc : i = 0 ∨ i = 1 ∨ i = 2 ∨ i = 3 ∨ i = 4 ∨ i = 5 ∨ i = 6 ∨ i = 7 ∨ i = 8 ∨ i = 9 ∨ i = 10 ∨ i = 11 ∨ i = 12 ∨ i = 13 ∨ i = 14 ∨ i = 15 ∨ i = 16 ∨ i = 17 ∨ i = 18 ∨ i = 19 ∨ i = 20 ∨ i = 21 ∨ i = 22 ∨ i = 23 ∨ i = 24 ∨ i = 25 ∨ i = 26 ∨ i = 27 ∨ i = 28 ∨ i = 29 ∨ i = 30 ∨ i = 31 ∨ i = 32 ∨ i = 33 ∨ i = 34 ∨ i = 35 ∨ i = 36 ∨ i = 37 ∨ i = 38 ∨ i = 39 ∨ i = 40 ∨ i = 41 ∨ i = 42 ∨ i = 43 ∨ i = 44 ∨ i = 45 := by omega
                  rcases hc with rfl | rfl | rfl | rfl | rfl | rfl | rfl | rfl | rfl | rfl | rfl | rfl | rfl | rfl | rfl | rfl | rfl | rfl | rfl | rfl | rfl | rfl | rfl | rfl | rfl | rfl | rfl | rfl | rfl | rfl | rfl | rfl | rfl | rfl | rfl | rfl | rfl | rfl | rfl | rfl | rfl | rfl | rfl | rfl | rfl | rfl
                  · cases hoi; cases hog
                  · cases hoi; cases hog
                  · cases hoi; cases hog; exact hv
                  · cases hoi; cases hog; exact hv
                  · cases hoi; cases hog
                  · cases hoi; cases hog
                  · cases hoi; cases hog; exact hv
                  · cases hoi; cases hog; exact hv
                  · cases hoi; cases hog
                  · cases hoi; cases hog
                  · cases hoi; cases hog; exact hv
                  · cases hoi; cases hog; exact hv
                  · cases hoi; cases hog; exact hv
                  · cases hoi; cases hog; exact hv
                  · cases hoi; cases hog; exact hv
                  · cases hoi; cases hog; exact hv
                  · cases hoi; cases hog; exact hv
                  · cases hoi; cases hog; exact hv
                  · cases hoi; cases hog; exact hv
                  · cases hoi; cases hog; exact hv
                  · cases hoi; cases hog; exact hv
                  · cases hoi; cases hog
                  · cases hoi; cases hog
                  · cases hoi; cases hog; exact hv
                  · cases hoi; cases hog; exact hv
                  · cases hoi; cases hog; exact hv
                  · cases hoi; cases hog; exact hv
                  · cases hoi; cases hog; exact hv
                  · cases hoi; cases hog; exact hv
                  · cases hoi; cases hog
                    show v ≠ _
                    rw [show v = _ from hv]
                    intro e; cases e
                  · cases hoi; cases hog
                    show v ≠ _
                    rw [show v = _ from hv]
                    intro e; cases e
                  · cases hoi; cases hog
                    show v ≠ _
                    rw [show v = _ from hv]
                    intro e; cases e
                  · cases hoi; cases hog
                    show v ≠ _
                    rw [show v = _ from hv]
                    intro e; cases e
                  · cases hoi; cases hog; exact hv
                  · cases hoi; cases hog; exact hv
                  · cases hoi; cases hog
                  · cases hoi; cases hog
                  · cases hoi; cases hog; exact hv
                  · cases hoi; cases hog; exact hv
                  · cases hoi; cases hog; exact hv
                  · cases hoi; cases hog; exact hv
                  · cases hoi; cases hog; exact hv
                  · cases hoi; cases hog; exact hv
                  · cases hoi; cases hog; exact hv
                  · cases hoi; cases hog
                  · cases hoi; cases hog
                case hng =>
                  intro i o hoi hr
                  have hi : i < 46 := (Array.getElem?_eq_some_iff.1 hoi).1
                  have hc : i = 0 ∨ i = 1 ∨ i = 2 ∨ i = 3 ∨ i = 4 ∨ i = 5 ∨ i = 6 ∨ i = 7 ∨ i = 8 ∨ i = 9 ∨ i = 10 ∨ i = 11 ∨ i = 12 ∨ i = 13 ∨ i = 14 ∨ i = 15 ∨ i = 16 ∨ i = 17 ∨ i = 18 ∨ i = 19 ∨ i = 20 ∨ i = 21 ∨ i = 22 ∨ i = 23 ∨ i = 24 ∨ i = 25 ∨ i = 26 ∨ i = 27 ∨ i = 28 ∨ i = 29 ∨ i = 30 ∨ i = 31 ∨ i = 32 ∨ i = 33 ∨ i = 34 ∨ i = 35 ∨ i = 36 ∨ i = 37 ∨ i = 38 ∨ i = 39 ∨ i = 40 ∨ i = 41 ∨ i = 42 ∨ i = 43 ∨ i = 44 ∨ i = 45 := by omega
                  rcases hc with rfl | rfl | rfl | rfl | rfl | rfl | rfl | rfl | rfl | rfl | rfl | rfl | rfl | rfl | rfl | rfl | rfl | rfl | rfl | rfl | rfl | rfl | rfl | rfl | rfl | rfl | rfl | rfl | rfl | rfl | rfl | rfl | rfl | rfl | rfl | rfl | rfl | rfl | rfl | rfl | rfl | rfl | rfl | rfl | rfl | rfl
                  · exact absurd hr (by decide)
                  · exact absurd hr (by decide)
                  · exact absurd hr (by decide)
                  · exact absurd hr (by decide)
                  · exact absurd hr (by decide)
                  · exact absurd hr (by decide)
                  · exact absurd hr (by decide)
                  · exact absurd hr (by decide)
                  · exact absurd hr (by decide)
                  · exact absurd hr (by decide)
                  · exact absurd hr (by decide)
                  · exact absurd hr (by decide)
                  · exact absurd hr (by decide)
                  · exact absurd hr (by decide)
                  · exact absurd hr (by decide)
                  · exact absurd hr (by decide)
                  · exact absurd hr (by decide)
                  · exact absurd hr (by decide)
                  · exact absurd hr (by decide)
                  · exact absurd hr (by decide)
                  · exact absurd hr (by decide)
                  · exact absurd hr (by decide)
                  · exact absurd hr (by decide)
                  · exact absurd hr (by decide)
                  · exact absurd hr (by decide)
                  · exact absurd hr (by decide)
                  · exact absurd hr (by decide)
                  · exact absurd hr (by decide)
                  · exact absurd hr (by decide)
                  · cases hoi; exact ⟨_, _, rfl⟩
                  · cases hoi; exact ⟨_, _, rfl⟩
                  · cases hoi; exact ⟨_, _, rfl⟩
                  · cases hoi; exact ⟨_, _, rfl⟩
                  · exact absurd hr (by decide)
                  · exact absurd hr (by decide)
                  · exact absurd hr (by decide)
                  · exact absurd hr (by decide)
                  · exact absurd hr (by decide)
                  · exact absurd hr (by decide)
                  · exact absurd hr (by decide)
                  · exact absurd hr (by decide)
                  · exact absurd hr (by decide)
                  · exact absurd hr (by decide)
                  · exact absurd hr (by decide)
                  · exact absurd hr (by decide)
                  · exact absurd hr (by decide)
                case hsk =>
                  intro i us w hr hS
                  by_cases hi : i < 46
                  · have hc : i = 0 ∨ i = 1 ∨ i = 2 ∨ i = 3 ∨ i = 4 ∨ i = 5 ∨ i = 6 ∨ i = 7 ∨ i = 8 ∨ i = 9 ∨ i = 10 ∨ i = 11 ∨ i = 12 ∨ i = 13 ∨ i = 14 ∨ i = 15 ∨ i = 16 ∨ i = 17 ∨ i = 18 ∨ i = 19 ∨ i = 20 ∨ i = 21 ∨ i = 22 ∨ i = 23 ∨ i = 24 ∨ i = 25 ∨ i = 26 ∨ i = 27 ∨ i = 28 ∨ i = 29 ∨ i = 30 ∨ i = 31 ∨ i = 32 ∨ i = 33 ∨ i = 34 ∨ i = 35 ∨ i = 36 ∨ i = 37 ∨ i = 38 ∨ i = 39 ∨ i = 40 ∨ i = 41 ∨ i = 42 ∨ i = 43 ∨ i = 44 ∨ i = 45 := by omega
                    rcases hc with rfl | rfl | rfl | rfl | rfl | rfl | rfl | rfl | rfl | rfl | rfl | rfl | rfl | rfl | rfl | rfl | rfl | rfl | rfl | rfl | rfl | rfl | rfl | rfl | rfl | rfl | rfl | rfl | rfl | rfl | rfl | rfl | rfl | rfl | rfl | rfl | rfl | rfl | rfl | rfl | rfl | rfl | rfl | rfl | rfl | rfl
                    · exact absurd hr (by decide)
                    · exact absurd hr (by decide)
                    · exact absurd hr (by decide)
                    · exact absurd hr (by decide)
                    · exact absurd hr (by decide)
                    · exact absurd hr (by decide)
                    · exact absurd hr (by decide)
                    · exact absurd hr (by decide)
                    · exact absurd hr (by decide)
                    · exact absurd hr (by decide)
                    · exact absurd hr (by decide)
                    · exact absurd hr (by decide)
                    · exact absurd hr (by decide)
                    · exact absurd hr (by decide)
                    · exact absurd hr (by decide)
                    · exact absurd hr (by decide)
                    · exact absurd hr (by decide)
                    · exact absurd hr (by decide)
                    · exact absurd hr (by decide)
                    · exact absurd hr (by decide)
                    · exact absurd hr (by decide)
                    · exact absurd hr (by decide)
                    · exact absurd hr (by decide)
                    · exact absurd hr (by decide)
                    · exact absurd hr (by decide)
                    · exact absurd hr (by decide)
                    · exact absurd hr (by decide)
                    · exact absurd hr (by decide)
                    · exact absurd hr (by decide)
                    · exact rfl
                    · exact rfl
                    · exact rfl
                    · exact rfl
                    · exact absurd hr (by decide)
                    · exact absurd hr (by decide)
                    · exact absurd hr (by decide)
                    · exact absurd hr (by decide)
                    · exact absurd hr (by decide)
                    · exact absurd hr (by decide)
                    · exact absurd hr (by decide)
                    · exact absurd hr (by decide)
                    · exact absurd hr (by decide)
                    · exact absurd hr (by decide)
                    · exact absurd hr (by decide)
                    · exact absurd hr (by decide)
                    · exact absurd hr (by decide)
                  · exact absurd hr (by rw [show kptfN i = true from by unfold kptfN; simp; omega]; decide)
                case refine_1 =>
                  intro hrun a' w9 hS h0 hd
                  have e8 : a'.tmps[8]?.getD undef = .bool true := vev (h0 8 (by kernel_rfl))
                  refine Does2.value (.bool true) (w' := w9) ?_ ⟨rfl, hS, Below.refl _ _⟩
                  clear hS h0 hd hrun
                  go_simp
                case refine_2 =>
                  intro hrun a' w9 hS h0 hd
                  have e79 : a'.tmps[79]?.getD undef = .bool true := vev (hd 0 List.mem_cons_self)
                  refine Does2.value (.bool true) (w' := w9) ?_ ⟨rfl, hS, Below.refl _ _⟩
                  clear hS h0 hd hrun
                  go_simp
                case refine_3 =>
                  intro hrun a' w9 hS h0 hd
                  have e12 : a'.tmps[12]?.getD undef = .int .i64 0 := vev (h0 12 (by kernel_rfl))
                  refine Does2.value (.int .i64 0) (w' := w9) ?_ ⟨rfl, hS, Below.refl _ _⟩
                  clear hS h0 hd hrun
                  go_simp
                case refine_4 =>
                  intro hrun a' w9 hS h0 hd
                  have e81 : a'.tmps[81]?.getD undef = .int .i64 0 := vev (hd 2 List.mem_cons_self)
                  refine Does2.value (.bool true) (w' := w9) ?_ ⟨rfl, hS, Below.refl _ _⟩
                  clear hS h0 hd hrun
                  go_simp
                case refine_5 =>
                  intro hrun a' w9 hS h0 hd
                  have e80 : a'.tmps[80]?.getD undef = .bool true := vev (hd 1 List.mem_cons_self)
                  have e82 : a'.tmps[82]?.getD undef = .bool true := vev (hd 3 (List.mem_cons_of_mem _ List.mem_cons_self))
                  refine Does2.value (.bool true) (w' := w9) ?_ ⟨rfl, hS, Below.refl _ _⟩
                  clear hS h0 hd hrun
                  go_simp
                case refine_6 =>
                  intro hrun a' w9 hS h0 hd
                  have e83 : a'.tmps[83]?.getD undef = .bool true := vev (hd 4 List.mem_cons_self)
                  refine Does2.value (.bool true) (w' := w9) ?_ ⟨rfl, hS, Below.refl _ _⟩
                  clear hS h0 hd hrun
                  go_simp
                case refine_7 =>
                  intro hrun a' w9 hS h0 hd
                  have e15 : a'.tmps[15]?.getD undef = .int .i64 0 := vev (h0 15 (by kernel_rfl))
                  refine Does2.value (.int .i64 0) (w' := w9) ?_ ⟨rfl, hS, Below.refl _ _⟩
                  clear hS h0 hd hrun
                  go_simp
                case refine_8 =>
                  intro hrun a' w9 hS h0 hd
                  have e85 : a'.tmps[85]?.getD undef = .int .i64 0 := vev (hd 6 List.mem_cons_self)
                  refine Does2.value (.bool true) (w' := w9) ?_ ⟨rfl, hS, Below.refl _ _⟩
                  clear hS h0 hd hrun
                  go_simp
                case refine_9 =>
                  intro hrun a' w9 hS h0 hd
                  have e84 : a'.tmps[84]?.getD undef = .bool true := vev (hd 5 List.mem_cons_self)
                  have e86 : a'.tmps[86]?.getD undef = .bool true := vev (hd 7 (List.mem_cons_of_mem _ List.mem_cons_self))
                  refine Does2.value (.bool true) (w' := w9) ?_ ⟨rfl, hS, Below.refl _ _⟩
                  clear hS h0 hd hrun
                  go_simp
                case refine_10 =>
                  intro hrun a' w9 hS h0 hd
                  have e87 : a'.tmps[87]?.getD undef = .bool true := vev (hd 8 List.mem_cons_self)
                  refine Does2.value (.bool true) (w' := w9) ?_ ⟨rfl, hS, Below.refl _ _⟩
                  clear hS h0 hd hrun
                  go_simp
                case refine_11 =>
                  intro hrun a' w9 hS h0 hd
                  have e17 : a'.tmps[17]?.getD undef = .pointer (some ⟨w110.heap.size, 0, none⟩) := vev (h0 17 (by kernel_rfl))
                  obtain ⟨y0, y1, y2, y3, -⟩ := (VC.out.below hS VC.out.lt).cells
                  refine Does2.value (.agg #[.int .u32 g, .bool xC, .int .i64 lC, .slice aC nC cC]) (w' := w9) ?_ ⟨rfl, hS, Below.refl _ _⟩
                  clear hS h0 hd hrun
                  go_simp
                case refine_12 =>
                  intro hrun a' w9 hS h0 hd
                  have e6 : a'.tmps[6]?.getD undef = .int .u32 x := vev (h0 6 (by kernel_rfl))
                  refine Does2.value (.int .u32 x) (w' := w9) ?_ ⟨rfl, hS, Below.refl _ _⟩
                  clear hS h0 hd hrun
                  go_simp
                case refine_13 =>
                  intro hrun a' w9 hS h0 hd
                  have e89 : a'.tmps[89]?.getD undef = .agg #[.int .u32 g, .bool xC, .int .i64 lC, .slice aC nC cC] := vev (hd 10 List.mem_cons_self)
                  have e90 : a'.tmps[90]?.getD undef = .int .u32 x := vev (hd 11 (List.mem_cons_of_mem _ List.mem_cons_self))
                  refine Does2.call 32 #[.agg #[.int .u32 g, .bool xC, .int .i64 lC, .slice aC nC cC], .int .u32 x] (w' := w9) ?_ ((mWants g xC lC aC nC cC sC x w9 NNC.out (by have := HRC.out.2.1; rw [NNC.out] at this; omega) (SSC.out.below hS) HRC.out.inc HRC.out.nn).mono ?_)
                  · clear hS h0 hd
                    go_simp
                  · rw [FC.out]
                    rintro e w8 ⟨rfl, hb⟩
                    exact ⟨_, rfl, rfl, hS.trans (hb.mono hS.size), hb⟩
                case refine_14 =>
                  intro hrun a' w9 hS h0 hd
                  have e16 : a'.tmps[16]?.getD undef = .bool true := vev (h0 16 (by kernel_rfl))
                  refine Does2.value (.bool true) (w' := w9) ?_ ⟨rfl, hS, Below.refl _ _⟩
                  clear hS h0 hd hrun
                  go_simp
                case refine_15 =>
                  intro hrun a' w9 hS h0 hd
                  have e92 : a'.tmps[92]?.getD undef = .bool true := vev (hd 13 List.mem_cons_self)
                  refine Does2.value (.bool true) (w' := w9) ?_ ⟨rfl, hS, Below.refl _ _⟩
                  clear hS h0 hd hrun
                  go_simp
                case refine_16 =>
                  intro hrun a' w9 hS h0 hd
                  have e7 : a'.tmps[7]?.getD undef = .int .i64 t := vev (h0 7 (by kernel_rfl))
                  refine Does2.value (.int .i64 t) (w' := w9) ?_ ⟨rfl, hS, Below.refl _ _⟩
                  clear hS h0 hd hrun
                  go_simp
                case refine_17 =>
                  intro hrun a' w9 hS h0 hd
                  have e3 : a'.tmps[3]?.getD undef = .pointer (some ⟨w.heap.size + 1, 0, none⟩) := vev (h0 3 (by kernel_rfl))
                  refine Does2.value (.pointer (some ⟨w.heap.size + 1, 0, none⟩)) (w' := w9) ?_ ⟨rfl, hS, Below.refl _ _⟩
                  clear hS h0 hd hrun
                  go_simp
                case refine_18 =>
                  intro hrun a' w9 hS h0 hd
                  have e95 : a'.tmps[95]?.getD undef = .pointer (some ⟨w.heap.size + 1, 0, none⟩) := vev (hd 16 List.mem_cons_self)
                  obtain ⟨y0, y1⟩ := TT.out.below hS
                  refine Does2.value (.int .i64 kp) (w' := w9) ?_ ⟨rfl, hS, Below.refl _ _⟩
                  clear hS h0 hd hrun
                  go_simp
                case refine_19 =>
                  intro hrun a' w9 hS h0 hd
                  have e94 : a'.tmps[94]?.getD undef = .int .i64 t := vev (hd 15 List.mem_cons_self)
                  have e96 : a'.tmps[96]?.getD undef = .int .i64 kp := vev (hd 17 (List.mem_cons_of_mem _ List.mem_cons_self))
                  have nkz : decide (t < kp) = false := NK.out
                  refine Does2.value (.bool false) (w' := w9) ?_ ⟨rfl, hS, Below.refl _ _⟩
                  clear hS h0 hd hrun
                  go_simp
                case refine_20 =>
                  intro hrun a' w9 hS h0 hd
                  have e93 : a'.tmps[93]?.getD undef = .bool true := vev (hd 14 List.mem_cons_self)
                  have e97 : a'.tmps[97]?.getD undef = .bool false := vev (hd 18 (List.mem_cons_of_mem _ List.mem_cons_self))
                  refine Does2.value (.bool false) (w' := w9) ?_ ⟨rfl, hS, Below.refl _ _⟩
                  clear hS h0 hd hrun
                  go_simp
                case refine_21 =>
                  intro hrun a' w9 hS h0 hd
                  have e91 : a'.tmps[91]?.getD undef = .bool false := vev (hd 12 List.mem_cons_self)
                  have e98 : a'.tmps[98]?.getD undef = .bool false := vev (hd 19 (List.mem_cons_of_mem _ List.mem_cons_self))
                  refine Does2.value (.bool true) (w' := w9) ?_ ⟨rfl, hS, Below.refl _ _⟩
                  clear hS h0 hd hrun
                  go_simp
                case refine_22 =>
                  intro hrun a' w9 hS h0 hd
                  have e88 : a'.tmps[88]?.getD undef = .bool true := vev (hd 9 List.mem_cons_self)
                  have e99 : a'.tmps[99]?.getD undef = .bool true := vev (hd 20 (List.mem_cons_of_mem _ List.mem_cons_self))
                  refine Does2.value (.bool true) (w' := w9) ?_ ⟨rfl, hS, Below.refl _ _⟩
                  clear hS h0 hd hrun
                  go_simp
                case refine_23 =>
                  intro hrun a' w9 hS h0 hd
                  have e100 : a'.tmps[100]?.getD undef = .bool true := vev (hd 21 List.mem_cons_self)
                  refine Does2.value (.bool true) (w' := w9) ?_ ⟨rfl, hS, Below.refl _ _⟩
                  clear hS h0 hd hrun
                  go_simp
                case refine_24 =>
                  intro hrun a' w9 hS h0 hd
                  have e18 : a'.tmps[18]?.getD undef = .pointer (some ⟨w112.heap.size, 0, none⟩) := vev (h0 18 (by kernel_rfl))
                  obtain ⟨y0, y1, y2, y3, -⟩ := (VD.out.below hS VD.out.lt).cells
                  refine Does2.value (.agg #[.int .u32 g, .bool xD, .int .i64 lD, .slice aD nD cD]) (w' := w9) ?_ ⟨rfl, hS, Below.refl _ _⟩
                  clear hS h0 hd hrun
                  go_simp
                case refine_25 =>
                  intro hrun a' w9 hS h0 hd
                  have e6 : a'.tmps[6]?.getD undef = .int .u32 x := vev (h0 6 (by kernel_rfl))
                  refine Does2.value (.int .u32 x) (w' := w9) ?_ ⟨rfl, hS, Below.refl _ _⟩
                  clear hS h0 hd hrun
                  go_simp
                case refine_26 =>
                  intro hrun a' w9 hS h0 hd
                  have e102 : a'.tmps[102]?.getD undef = .agg #[.int .u32 g, .bool xD, .int .i64 lD, .slice aD nD cD] := vev (hd 23 List.mem_cons_self)
                  have e103 : a'.tmps[103]?.getD undef = .int .u32 x := vev (hd 24 (List.mem_cons_of_mem _ List.mem_cons_self))
                  refine Does2.call 32 #[.agg #[.int .u32 g, .bool xD, .int .i64 lD, .slice aD nD cD], .int .u32 x] (w' := w9) ?_ ((mWants g xD lD aD nD cD sD x w9 NND.out (by have := HRD.out.2.1; rw [NND.out] at this; omega) (SSD.out.below hS) HRD.out.inc HRD.out.nn).mono ?_)
                  · clear hS h0 hd
                    go_simp
                  · rw [FD.out]
                    rintro e w8 ⟨rfl, hb⟩
                    exact ⟨_, rfl, rfl, hS.trans (hb.mono hS.size), hb⟩
                case refine_27 =>
                  intro hrun a' w9 hS h0 hd
                  have e16 : a'.tmps[16]?.getD undef = .bool true := vev (h0 16 (by kernel_rfl))
                  refine Does2.value (.bool true) (w' := w9) ?_ ⟨rfl, hS, Below.refl _ _⟩
                  clear hS h0 hd hrun
                  go_simp
                case refine_28 =>
                  intro hrun a' w9 hS h0 hd
                  have e105 : a'.tmps[105]?.getD undef = .bool true := vev (hd 26 List.mem_cons_self)
                  refine Does2.value (.bool false) (w' := w9) ?_ ⟨rfl, hS, Below.refl _ _⟩
                  clear hS h0 hd hrun
                  go_simp
                case refine_29 =>
                  intro hrun a' w9 hS h0 hd
                  have e106 : a'.tmps[106]?.getD undef = .bool false := vev (hd 27 List.mem_cons_self)
                  refine Does2.value (.bool false) (w' := w9) ?_ ⟨rfl, hS, Below.refl _ _⟩
                  clear hS h0 hd hrun
                  go_simp
                case refine_30 =>
                  intro hrun a' w9 hS h0 hd
                  exact absurd hrun (by decide)
                case refine_31 =>
                  intro hrun a' w9 hS h0 hd
                  exact absurd hrun (by decide)
                case refine_32 =>
                  intro hrun a' w9 hS h0 hd
                  exact absurd hrun (by decide)
                case refine_33 =>
                  intro hrun a' w9 hS h0 hd
                  exact absurd hrun (by decide)
                case refine_34 =>
                  intro hrun a' w9 hS h0 hd
                  have e107 : a'.tmps[107]?.getD undef = .bool false := vev (hd 28 List.mem_cons_self)
                  have e111 : a'.tmps[111]?.getD undef = undef := vev (hd 32 (List.mem_cons_of_mem _ List.mem_cons_self))
                  refine Does2.value (.bool false) (w' := w9) ?_ ⟨rfl, hS, Below.refl _ _⟩
                  clear hS h0 hd hrun
                  go_simp
                case refine_35 =>
                  intro hrun a' w9 hS h0 hd
                  have e104 : a'.tmps[104]?.getD undef = .bool false := vev (hd 25 List.mem_cons_self)
                  have e112 : a'.tmps[112]?.getD undef = .bool false := vev (hd 33 (List.mem_cons_of_mem _ List.mem_cons_self))
                  refine Does2.value (.bool true) (w' := w9) ?_ ⟨rfl, hS, Below.refl _ _⟩
                  clear hS h0 hd hrun
                  go_simp
                case refine_36 =>
                  intro hrun a' w9 hS h0 hd
                  have e101 : a'.tmps[101]?.getD undef = .bool true := vev (hd 22 List.mem_cons_self)
                  have e113 : a'.tmps[113]?.getD undef = .bool true := vev (hd 34 (List.mem_cons_of_mem _ List.mem_cons_self))
                  refine Does2.value (.bool true) (w' := w9) ?_ ⟨rfl, hS, Below.refl _ _⟩
                  clear hS h0 hd hrun
                  go_simp
                case refine_37 =>
                  intro hrun a' w9 hS h0 hd
                  have e114 : a'.tmps[114]?.getD undef = .bool true := vev (hd 35 List.mem_cons_self)
                  refine Does2.value (.bool true) (w' := w9) ?_ ⟨rfl, hS, Below.refl _ _⟩
                  clear hS h0 hd hrun
                  go_simp
                case refine_38 =>
                  intro hrun a' w9 hS h0 hd
                  have e18 : a'.tmps[18]?.getD undef = .pointer (some ⟨w112.heap.size, 0, none⟩) := vev (h0 18 (by kernel_rfl))
                  obtain ⟨y0, y1, y2, y3, -⟩ := (VD.out.below hS VD.out.lt).cells
                  refine Does2.value (.agg #[.int .u32 g, .bool xD, .int .i64 lD, .slice aD nD cD]) (w' := w9) ?_ ⟨rfl, hS, Below.refl _ _⟩
                  clear hS h0 hd hrun
                  go_simp
                case refine_39 =>
                  intro hrun a' w9 hS h0 hd
                  have e116 : a'.tmps[116]?.getD undef = .agg #[.int .u32 g, .bool xD, .int .i64 lD, .slice aD nD cD] := vev (hd 37 List.mem_cons_self)
                  refine Does2.call 33 #[.agg #[.int .u32 g, .bool xD, .int .i64 lD, .slice aD nD cD]] (w' := w9) ?_ ((mSome g xD lD aD nD cD w9).mono ?_)
                  · clear hS h0 hd
                    go_simp
                  · rw [FS.out]
                    rintro e w8 ⟨rfl, hb⟩
                    exact ⟨_, rfl, rfl, hS.trans (hb.mono hS.size), hb⟩
                case refine_40 =>
                  intro hrun a' w9 hS h0 hd
                  have e7 : a'.tmps[7]?.getD undef = .int .i64 t := vev (h0 7 (by kernel_rfl))
                  refine Does2.value (.int .i64 t) (w' := w9) ?_ ⟨rfl, hS, Below.refl _ _⟩
                  clear hS h0 hd hrun
                  go_simp
                case refine_41 =>
                  intro hrun a' w9 hS h0 hd
                  have e3 : a'.tmps[3]?.getD undef = .pointer (some ⟨w.heap.size + 1, 0, none⟩) := vev (h0 3 (by kernel_rfl))
                  refine Does2.value (.pointer (some ⟨w.heap.size + 1, 0, none⟩)) (w' := w9) ?_ ⟨rfl, hS, Below.refl _ _⟩
                  clear hS h0 hd hrun
                  go_simp
                case refine_42 =>
                  intro hrun a' w9 hS h0 hd
                  have e119 : a'.tmps[119]?.getD undef = .pointer (some ⟨w.heap.size + 1, 0, none⟩) := vev (hd 40 List.mem_cons_self)
                  obtain ⟨y0, y1⟩ := TT.out.below hS
                  refine Does2.value (.int .i64 kp) (w' := w9) ?_ ⟨rfl, hS, Below.refl _ _⟩
                  clear hS h0 hd hrun
                  go_simp
                case refine_43 =>
                  intro hrun a' w9 hS h0 hd
                  have e118 : a'.tmps[118]?.getD undef = .int .i64 t := vev (hd 39 List.mem_cons_self)
                  have e120 : a'.tmps[120]?.getD undef = .int .i64 kp := vev (hd 41 (List.mem_cons_of_mem _ List.mem_cons_self))
                  have nkz : decide (t < kp) = false := NK.out
                  refine Does2.value (.bool false) (w' := w9) ?_ ⟨rfl, hS, Below.refl _ _⟩
                  clear hS h0 hd hrun
                  go_simp
                case refine_44 =>
                  intro hrun a' w9 hS h0 hd
                  have e117 : a'.tmps[117]?.getD undef = .bool false := vev (hd 38 List.mem_cons_self)
                  have e121 : a'.tmps[121]?.getD undef = .bool false := vev (hd 42 (List.mem_cons_of_mem _ List.mem_cons_self))
                  refine Does2.value (.bool true) (w' := w9) ?_ ⟨rfl, hS, Below.refl _ _⟩
                  clear hS h0 hd hrun
                  go_simp
                case refine_45 =>
                  intro hrun a' w9 hS h0 hd
                  have e115 : a'.tmps[115]?.getD undef = .bool true := vev (hd 36 List.mem_cons_self)
                  have e122 : a'.tmps[122]?.getD undef = .bool true := vev (hd 43 (List.mem_cons_of_mem _ List.mem_cons_self))
                  refine Does2.value (.bool true) (w' := w9) ?_ ⟨rfl, hS, Below.refl _ _⟩
                  clear hS h0 hd hrun
                  go_simp
                case refine_46 =>
                  intro hrun a' w9 hS h0 hd
                  have e123 : a'.tmps[123]?.getD undef = .bool true := vev (hd 44 List.mem_cons_self)
                  refine Does2.value (.bool true) (w' := w9) ?_ ⟨rfl, hS, Below.refl _ _⟩
                  clear hS h0 hd hrun
                  go_simp
                case hend =>
                  intro f wE hS hv
                  have v2 := hv 45 (by decide)
                  replace v2 : f 2 = .bool true := v2
                  simp only [putAll, Act.put, List.setIfInBounds_toArray, List.set_cons_zero, List.set_cons_succ, v2]
                  have BB := Lib.hid (BB.out.trans (hS.mono BB.out.size))
                  clear hS hv v2
                  go_wp2_with fail
                  go_ret
                  exact ⟨rfl, BB.out⟩
              · obtain ⟨TT0, TT1⟩ := TT.out
                obtain ⟨VM0, VM1, VM2, VM3, -⟩ := VM.out.cells
                obtain ⟨VA0, VA1, VA2, VA3, -⟩ := VA.out.cells
                obtain ⟨VB0, VB1, VB2, VB3, -⟩ := VB.out.cells
                obtain ⟨VC0, VC1, VC2, VC3, -⟩ := VC.out.cells
                obtain ⟨VD0, VD1, VD2, VD3, -⟩ := VD.out.cells
                go_wp2_with fail
                generalize w112.alloc (.cells #[.int .u32 g, .bool xD, .int .i64 lD, .slice aD nD cD] 48) = w113 at *
                clear TT0 TT1 VM0 VM1 VM2 VM3 VA0 VA1 VA2 VA3 VB0 VB1 VB2 VB3 VC0 VC1 VC2 VC3 VD0 VD1 VD2 VD3
                refine wp_region_each4 (kpttV w.heap.size g x t kp xC lC aC nC cC xD lD aD nD cD) (fun W => Below w113.heap.size w113 W) (fun _ A B => Below A.heap.size A B) kpttD kpttN [79, 80, 81, 82, 83, 84, 85, 86, 87, 88, 89, 90, 91, 92, 93, 94, 95, 96, 97, 98, 99, 100, 101, 102, 103, 104, 105, 106, 107, 108, 109, 110, 111, 112, 113, 114, 115, 116, 117, 118, 119, 120, 121, 122, 123, 2] (by kernel_rfl) (by kernel_rfl) (by kernel_rfl) (Below.refl _ w113).drew
                  (fun i j oi oj v us A B hoi hoj hij hw hSA hr hv => kptt_st _ _ _ _ _ _ _ _ _ _ _ _ _ _ _ hr hv) ?hgd ?hng ?hsk
                  ⟨?_, ?_, ?_, ?_, ?_, ?_, ?_, ?_, ?_, ?_, ?_, ?_, ?_, ?_, ?_, ?_, ?_, ?_, ?_, ?_, ?_, ?_, ?_, ?_, ?_, ?_, ?_, ?_, ?_, ?_, ?_, ?_, ?_, ?_, ?_, ?_, ?_, ?_, ?_, ?_, ?_, ?_, ?_, ?_, ?_, ?_, trivial⟩ ?hend
                case hgd =>
                  intro i o g b hoi hog v us w hv
                  have hi : i < 46 := (Array.getElem?_eq_some_iff.1 hoi).1
                  have hc : i = 0 ∨ i = 1 ∨ i = 2 ∨ i = 3 ∨ i = 4 ∨ i = 5 ∨ i = 6 ∨ i = 7 ∨ i = 8 ∨ i = 9 ∨ i = 10 ∨ i = 11 ∨ i = 12 ∨ i = 13 ∨ i = 14 ∨ i = 15 ∨ i = 16 ∨ i = 17 ∨ i = 18 ∨ i = 19 ∨ i = 20 ∨ i = 21 ∨ i = 22 ∨ i = 23 ∨ i = 24 ∨ i = 25 ∨ i = 26 ∨ i = 27 ∨ i = 28 ∨ i = 29 ∨ i = 30 ∨ i = 31 ∨ i = 32 ∨ i = 33 ∨ i = 34 ∨ i = 35 ∨ i = 36 ∨ i = 37 ∨ i = 38 ∨ i = 39 ∨ i = 40 ∨ i = 41 ∨ i = 42 ∨ i = 43 ∨ i = 44 ∨ i = 45 := by omega
                  rcases hc with rfl | rfl | rfl | rfl | rfl | rfl | rfl | rfl | rfl | rfl | rfl | rfl | rfl | rfl | rfl | rfl | rfl | rfl | rfl | rfl | rfl | rfl | rfl | rfl | rfl | rfl | rfl | rfl | rfl | rfl | rfl | rfl | rfl | rfl | rfl | rfl | rfl | rfl | rfl | rfl | rfl | rfl | rfl | rfl | rfl | rfl
                  · cases hoi; cases hog
                  · cases hoi; cases hog
                  · cases hoi; cases hog; exact hv
                  · cases hoi; cases hog; exact hv
                  · cases hoi; cases hog
                  · cases hoi; cases hog
                  · cases hoi; cases hog; exact hv
                  · cases hoi; cases hog; exact hv
                  · cases hoi; cases hog
                  · cases hoi; cases hog
                  · cases hoi; cases hog; exact hv
                  · cases hoi; cases hog; exact hv
                  · cases hoi; cases hog; exact hv
                  · cases hoi; cases hog; exact hv
                  · cases hoi; cases hog; exact hv
                  · cases hoi; cases hog; exact hv
                  · cases hoi; cases hog; exact hv
                  · cases hoi; cases hog; exact hv
                  · cases hoi; cases hog; exact hv
                  · cases hoi; cases hog; exact hv
                  · cases hoi; cases hog; exact hv
                  · cases hoi; cases hog
                  · cases hoi; cases hog
                  · cases hoi; cases hog; exact hv
                  · cases hoi; cases hog; exact hv
                  · cases hoi; cases hog; exact hv
                  · cases hoi; cases hog; exact hv
                  · cases hoi; cases hog; exact hv
                  · cases hoi; cases hog; exact hv
                  · cases hoi; cases hog
                    show v ≠ _
                    rw [show v = _ from hv]
                    intro e; cases e
                  · cases hoi; cases hog
                    show v ≠ _
                    rw [show v = _ from hv]
                    intro e; cases e
                  · cases hoi; cases hog
                    show v ≠ _
                    rw [show v = _ from hv]
                    intro e; cases e
                  · cases hoi; cases hog
                    show v ≠ _
                    rw [show v = _ from hv]
                    intro e; cases e
                  · cases hoi; cases hog; exact hv
                  · cases hoi; cases hog; exact hv
                  · cases hoi; cases hog
                  · cases hoi; cases hog
                  · cases hoi; cases hog; exact hv
                  · cases hoi; cases hog; exact hv
                  · cases hoi; cases hog; exact hv
                  · cases hoi; cases hog; exact hv
                  · cases hoi; cases hog; exact hv
                  · cases hoi; cases hog; exact hv
                  · cases hoi; cases hog; exact hv
                  · cases hoi; cases hog
                  · cases hoi; cases hog
                case hng =>
                  intro i o hoi hr
                  have hi : i < 46 := (Array.getElem?_eq_some_iff.1 hoi).1
                  have hc : i = 0 ∨ i = 1 ∨ i = 2 ∨ i = 3 ∨ i = 4 ∨ i = 5 ∨ i = 6 ∨ i = 7 ∨ i = 8 ∨ i = 9 ∨ i = 10 ∨ i = 11 ∨ i = 12 ∨ i = 13 ∨ i = 14 ∨ i = 15 ∨ i = 16 ∨ i = 17 ∨ i = 18 ∨ i = 19 ∨ i = 20 ∨ i = 21 ∨ i = 22 ∨ i = 23 ∨ i = 24 ∨ i = 25 ∨ i = 26 ∨ i = 27 ∨ i = 28 ∨ i = 29 ∨ i = 30 ∨ i = 31 ∨ i = 32 ∨ i = 33 ∨ i = 34 ∨ i = 35 ∨ i = 36 ∨ i = 37 ∨ i = 38 ∨ i = 39 ∨ i = 40 ∨ i = 41 ∨ i = 42 ∨ i = 43 ∨ i = 44 ∨ i = 45 := by omega
                  rcases hc with rfl | rfl | rfl | rfl | rfl | rfl | rfl | rfl | rfl | rfl | rfl | rfl | rfl | rfl | rfl | rfl | rfl | rfl | rfl | rfl | rfl | rfl | rfl | rfl | rfl | rfl | rfl | rfl | rfl | rfl | rfl | rfl | rfl | rfl | rfl | rfl | rfl | rfl | rfl | rfl | rfl | rfl | rfl | rfl | rfl | rfl
                  · exact absurd hr (by decide)
                  · exact absurd hr (by decide)
                  · exact absurd hr (by decide)
                  · exact absurd hr (by decide)
                  · exact absurd hr (by decide)
                  · exact absurd hr (by decide)
                  · exact absurd hr (by decide)
                  · exact absurd hr (by decide)
                  · exact absurd hr (by decide)
                  · exact absurd hr (by decide)
                  · exact absurd hr (by decide)
                  · exact absurd hr (by decide)
                  · exact absurd hr (by decide)
                  · exact absurd hr (by decide)
                  · exact absurd hr (by decide)
                  · exact absurd hr (by decide)
                  · exact absurd hr (by decide)
                  · exact absurd hr (by decide)
                  · exact absurd hr (by decide)
                  · exact absurd hr (by decide)
                  · exact absurd hr (by decide)
                  · exact absurd hr (by decide)
                  · exact absurd hr (by decide)
                  · exact absurd hr (by decide)
                  · exact absurd hr (by decide)
                  · exact absurd hr (by decide)
                  · exact absurd hr (by decide)
                  · exact absurd hr (by decide)
                  · exact absurd hr (by decide)
                  · cases hoi; exact ⟨_, _, rfl⟩
                  · cases hoi; exact ⟨_, _, rfl⟩
                  · cases hoi; exact ⟨_, _, rfl⟩
                  · cases hoi; exact ⟨_, _, rfl⟩
                  · exact absurd hr (by decide)
                  · exact absurd hr (by decide)
                  · exact absurd hr (by decide)
                  · exact absurd hr (by decide)
                  · exact absurd hr (by decide)
                  · exact absurd hr (by decide)
                  · exact absurd hr (by decide)
                  · exact absurd hr (by decide)
                  · exact absurd hr (by decide)
                  · exact absurd hr (by decide)
                  · exact absurd hr (by decide)
                  · exact absurd hr (by decide)
                  · exact absurd hr (by decide)
                case hsk =>
                  intro i us w hr hS
                  by_cases hi : i < 46
                  · have hc : i = 0 ∨ i = 1 ∨ i = 2 ∨ i = 3 ∨ i = 4 ∨ i = 5 ∨ i = 6 ∨ i = 7 ∨ i = 8 ∨ i = 9 ∨ i = 10 ∨ i = 11 ∨ i = 12 ∨ i = 13 ∨ i = 14 ∨ i = 15 ∨ i = 16 ∨ i = 17 ∨ i = 18 ∨ i = 19 ∨ i = 20 ∨ i = 21 ∨ i = 22 ∨ i = 23 ∨ i = 24 ∨ i = 25 ∨ i = 26 ∨ i = 27 ∨ i = 28 ∨ i = 29 ∨ i = 30 ∨ i = 31 ∨ i = 32 ∨ i = 33 ∨ i = 34 ∨ i = 35 ∨ i = 36 ∨ i = 37 ∨ i = 38 ∨ i = 39 ∨ i = 40 ∨ i = 41 ∨ i = 42 ∨ i = 43 ∨ i = 44 ∨ i = 45 := by omega
                    rcases hc with rfl | rfl | rfl | rfl | rfl | rfl | rfl | rfl | rfl | rfl | rfl | rfl | rfl | rfl | rfl | rfl | rfl | rfl | rfl | rfl | rfl | rfl | rfl | rfl | rfl | rfl | rfl | rfl | rfl | rfl | rfl | rfl | rfl | rfl | rfl | rfl | rfl | rfl | rfl | rfl | rfl | rfl | rfl | rfl | rfl | rfl
                    · exact absurd hr (by decide)
                    · exact absurd hr (by decide)
                    · exact absurd hr (by decide)
                    · exact absurd hr (by decide)
                    · exact absurd hr (by decide)
                    · exact absurd hr (by decide)
                    · exact absurd hr (by decide)
                    · exact absurd hr (by decide)
                    · exact absurd hr (by decide)
                    · exact absurd hr (by decide)
                    · exact absurd hr (by decide)
                    · exact absurd hr (by decide)
                    · exact absurd hr (by decide)
                    · exact absurd hr (by decide)
                    · exact absurd hr (by decide)
                    · exact absurd hr (by decide)
                    · exact absurd hr (by decide)
                    · exact absurd hr (by decide)
                    · exact absurd hr (by decide)
                    · exact absurd hr (by decide)
                    · exact absurd hr (by decide)
                    · exact absurd hr (by decide)
                    · exact absurd hr (by decide)
                    · exact absurd hr (by decide)
                    · exact absurd hr (by decide)
                    · exact absurd hr (by decide)
                    · exact absurd hr (by decide)
                    · exact absurd hr (by decide)
                    · exact absurd hr (by decide)
                    · exact rfl
                    · exact rfl
                    · exact rfl
                    · exact rfl
                    · exact absurd hr (by decide)
                    · exact absurd hr (by decide)
                    · exact absurd hr (by decide)
                    · exact absurd hr (by decide)
                    · exact absurd hr (by decide)
                    · exact absurd hr (by decide)
                    · exact absurd hr (by decide)
                    · exact absurd hr (by decide)
                    · exact absurd hr (by decide)
                    · exact absurd hr (by decide)
                    · exact absurd hr (by decide)
                    · exact absurd hr (by decide)
                    · exact absurd hr (by decide)
                  · exact absurd hr (by rw [show kpttN i = true from by unfold kpttN; simp; omega]; decide)
                case refine_1 =>
                  intro hrun a' w9 hS h0 hd
                  have e8 : a'.tmps[8]?.getD undef = .bool true := vev (h0 8 (by kernel_rfl))
                  refine Does2.value (.bool true) (w' := w9) ?_ ⟨rfl, hS, Below.refl _ _⟩
                  clear hS h0 hd hrun
                  go_simp
                case refine_2 =>
                  intro hrun a' w9 hS h0 hd
                  have e79 : a'.tmps[79]?.getD undef = .bool true := vev (hd 0 List.mem_cons_self)
                  refine Does2.value (.bool true) (w' := w9) ?_ ⟨rfl, hS, Below.refl _ _⟩
                  clear hS h0 hd hrun
                  go_simp
                case refine_3 =>
                  intro hrun a' w9 hS h0 hd
                  have e12 : a'.tmps[12]?.getD undef = .int .i64 0 := vev (h0 12 (by kernel_rfl))
                  refine Does2.value (.int .i64 0) (w' := w9) ?_ ⟨rfl, hS, Below.refl _ _⟩
                  clear hS h0 hd hrun
                  go_simp
                case refine_4 =>
                  intro hrun a' w9 hS h0 hd
                  have e81 : a'.tmps[81]?.getD undef = .int .i64 0 := vev (hd 2 List.mem_cons_self)
                  refine Does2.value (.bool true) (w' := w9) ?_ ⟨rfl, hS, Below.refl _ _⟩
                  clear hS h0 hd hrun
                  go_simp
                case refine_5 =>
                  intro hrun a' w9 hS h0 hd
                  have e80 : a'.tmps[80]?.getD undef = .bool true := vev (hd 1 List.mem_cons_self)
                  have e82 : a'.tmps[82]?.getD undef = .bool true := vev (hd 3 (List.mem_cons_of_mem _ List.mem_cons_self))
                  refine Does2.value (.bool true) (w' := w9) ?_ ⟨rfl, hS, Below.refl _ _⟩
                  clear hS h0 hd hrun
                  go_simp
                case refine_6 =>
                  intro hrun a' w9 hS h0 hd
                  have e83 : a'.tmps[83]?.getD undef = .bool true := vev (hd 4 List.mem_cons_self)
                  refine Does2.value (.bool true) (w' := w9) ?_ ⟨rfl, hS, Below.refl _ _⟩
                  clear hS h0 hd hrun
                  go_simp
                case refine_7 =>
                  intro hrun a' w9 hS h0 hd
                  have e15 : a'.tmps[15]?.getD undef = .int .i64 0 := vev (h0 15 (by kernel_rfl))
                  refine Does2.value (.int .i64 0) (w' := w9) ?_ ⟨rfl, hS, Below.refl _ _⟩
                  clear hS h0 hd hrun
                  go_simp
                case refine_8 =>
                  intro hrun a' w9 hS h0 hd
                  have e85 : a'.tmps[85]?.getD undef = .int .i64 0 := vev (hd 6 List.mem_cons_self)
                  refine Does2.value (.bool true) (w' := w9) ?_ ⟨rfl, hS, Below.refl _ _⟩
                  clear hS h0 hd hrun
                  go_simp
                case refine_9 =>
                  intro hrun a' w9 hS h0 hd
                  have e84 : a'.tmps[84]?.getD undef = .bool true := vev (hd 5 List.mem_cons_self)
                  have e86 : a'.tmps[86]?.getD undef = .bool true := vev (hd 7 (List.mem_cons_of_mem _ List.mem_cons_self))
                  refine Does2.value (.bool true) (w' := w9) ?_ ⟨rfl, hS, Below.refl _ _⟩
                  clear hS h0 hd hrun
                  go_simp
                case refine_10 =>
                  intro hrun a' w9 hS h0 hd
                  have e87 : a'.tmps[87]?.getD undef = .bool true := vev (hd 8 List.mem_cons_self)
                  refine Does2.value (.bool true) (w' := w9) ?_ ⟨rfl, hS, Below.refl _ _⟩
                  clear hS h0 hd hrun
                  go_simp
                case refine_11 =>
                  intro hrun a' w9 hS h0 hd
                  have e17 : a'.tmps[17]?.getD undef = .pointer (some ⟨w110.heap.size, 0, none⟩) := vev (h0 17 (by kernel_rfl))
                  obtain ⟨y0, y1, y2, y3, -⟩ := (VC.out.below hS VC.out.lt).cells
                  refine Does2.value (.agg #[.int .u32 g, .bool xC, .int .i64 lC, .slice aC nC cC]) (w' := w9) ?_ ⟨rfl, hS, Below.refl _ _⟩
                  clear hS h0 hd hrun
                  go_simp
                case refine_12 =>
                  intro hrun a' w9 hS h0 hd
                  have e6 : a'.tmps[6]?.getD undef = .int .u32 x := vev (h0 6 (by kernel_rfl))
                  refine Does2.value (.int .u32 x) (w' := w9) ?_ ⟨rfl, hS, Below.refl _ _⟩
                  clear hS h0 hd hrun
                  go_simp
                case refine_13 =>
                  intro hrun a' w9 hS h0 hd
                  have e89 : a'.tmps[89]?.getD undef = .agg #[.int .u32 g, .bool xC, .int .i64 lC, .slice aC nC cC] := vev (hd 10 List.mem_cons_self)
                  have e90 : a'.tmps[90]?.getD undef = .int .u32 x := vev (hd 11 (List.mem_cons_of_mem _ List.mem_cons_self))
                  refine Does2.call 32 #[.agg #[.int .u32 g, .bool xC, .int .i64 lC, .slice aC nC cC], .int .u32 x] (w' := w9) ?_ ((mWants g xC lC aC nC cC sC x w9 NNC.out (by have := HRC.out.2.1; rw [NNC.out] at this; omega) (SSC.out.below hS) HRC.out.inc HRC.out.nn).mono ?_)
                  · clear hS h0 hd
                    go_simp
                  · rw [FC.out]
                    rintro e w8 ⟨rfl, hb⟩
                    exact ⟨_, rfl, rfl, hS.trans (hb.mono hS.size), hb⟩
                case refine_14 =>
                  intro hrun a' w9 hS h0 hd
                  have e16 : a'.tmps[16]?.getD undef = .bool true := vev (h0 16 (by kernel_rfl))
                  refine Does2.value (.bool true) (w' := w9) ?_ ⟨rfl, hS, Below.refl _ _⟩
                  clear hS h0 hd hrun
                  go_simp
                case refine_15 =>
                  intro hrun a' w9 hS h0 hd
                  have e92 : a'.tmps[92]?.getD undef = .bool true := vev (hd 13 List.mem_cons_self)
                  refine Does2.value (.bool true) (w' := w9) ?_ ⟨rfl, hS, Below.refl _ _⟩
                  clear hS h0 hd hrun
                  go_simp
                case refine_16 =>
                  intro hrun a' w9 hS h0 hd
                  have e7 : a'.tmps[7]?.getD undef = .int .i64 t := vev (h0 7 (by kernel_rfl))
                  refine Does2.value (.int .i64 t) (w' := w9) ?_ ⟨rfl, hS, Below.refl _ _⟩
                  clear hS h0 hd hrun
                  go_simp
                case refine_17 =>
                  intro hrun a' w9 hS h0 hd
                  have e3 : a'.tmps[3]?.getD undef = .pointer (some ⟨w.heap.size + 1, 0, none⟩) := vev (h0 3 (by kernel_rfl))
                  refine Does2.value (.pointer (some ⟨w.heap.size + 1, 0, none⟩)) (w' := w9) ?_ ⟨rfl, hS, Below.refl _ _⟩
                  clear hS h0 hd hrun
                  go_simp
                case refine_18 =>
                  intro hrun a' w9 hS h0 hd
                  have e95 : a'.tmps[95]?.getD undef = .pointer (some ⟨w.heap.size + 1, 0, none⟩) := vev (hd 16 List.mem_cons_self)
                  obtain ⟨y0, y1⟩ := TT.out.below hS
                  refine Does2.value (.int .i64 kp) (w' := w9) ?_ ⟨rfl, hS, Below.refl _ _⟩
                  clear hS h0 hd hrun
                  go_simp
                case refine_19 =>
                  intro hrun a' w9 hS h0 hd
                  have e94 : a'.tmps[94]?.getD undef = .int .i64 t := vev (hd 15 List.mem_cons_self)
                  have e96 : a'.tmps[96]?.getD undef = .int .i64 kp := vev (hd 17 (List.mem_cons_of_mem _ List.mem_cons_self))
                  have nkz : decide (t < kp) = true := NK.out
                  refine Does2.value (.bool true) (w' := w9) ?_ ⟨rfl, hS, Below.refl _ _⟩
                  clear hS h0 hd hrun
                  go_simp
                case refine_20 =>
                  intro hrun a' w9 hS h0 hd
                  have e93 : a'.tmps[93]?.getD undef = .bool true := vev (hd 14 List.mem_cons_self)
                  have e97 : a'.tmps[97]?.getD undef = .bool true := vev (hd 18 (List.mem_cons_of_mem _ List.mem_cons_self))
                  refine Does2.value (.bool true) (w' := w9) ?_ ⟨rfl, hS, Below.refl _ _⟩
                  clear hS h0 hd hrun
                  go_simp
                case refine_21 =>
                  intro hrun a' w9 hS h0 hd
                  have e91 : a'.tmps[91]?.getD undef = .bool true := vev (hd 12 List.mem_cons_self)
                  have e98 : a'.tmps[98]?.getD undef = .bool true := vev (hd 19 (List.mem_cons_of_mem _ List.mem_cons_self))
                  refine Does2.value (.bool true) (w' := w9) ?_ ⟨rfl, hS, Below.refl _ _⟩
                  clear hS h0 hd hrun
                  go_simp
                case refine_22 =>
                  intro hrun a' w9 hS h0 hd
                  have e88 : a'.tmps[88]?.getD undef = .bool true := vev (hd 9 List.mem_cons_self)
                  have e99 : a'.tmps[99]?.getD undef = .bool true := vev (hd 20 (List.mem_cons_of_mem _ List.mem_cons_self))
                  refine Does2.value (.bool true) (w' := w9) ?_ ⟨rfl, hS, Below.refl _ _⟩
                  clear hS h0 hd hrun
                  go_simp
                case refine_23 =>
                  intro hrun a' w9 hS h0 hd
                  have e100 : a'.tmps[100]?.getD undef = .bool true := vev (hd 21 List.mem_cons_self)
                  refine Does2.value (.bool true) (w' := w9) ?_ ⟨rfl, hS, Below.refl _ _⟩
                  clear hS h0 hd hrun
                  go_simp
                case refine_24 =>
                  intro hrun a' w9 hS h0 hd
                  have e18 : a'.tmps[18]?.getD undef = .pointer (some ⟨w112.heap.size, 0, none⟩) := vev (h0 18 (by kernel_rfl))
                  obtain ⟨y0, y1, y2, y3, -⟩ := (VD.out.below hS VD.out.lt).cells
                  refine Does2.value (.agg #[.int .u32 g, .bool xD, .int .i64 lD, .slice aD nD cD]) (w' := w9) ?_ ⟨rfl, hS, Below.refl _ _⟩
                  clear hS h0 hd hrun
                  go_simp
                case refine_25 =>
                  intro hrun a' w9 hS h0 hd
                  have e6 : a'.tmps[6]?.getD undef = .int .u32 x := vev (h0 6 (by kernel_rfl))
                  refine Does2.value (.int .u32 x) (w' := w9) ?_ ⟨rfl, hS, Below.refl _ _⟩
                  clear hS h0 hd hrun
                  go_simp
                case refine_26 =>
                  intro hrun a' w9 hS h0 hd
                  have e102 : a'.tmps[102]?.getD undef = .agg #[.int .u32 g, .bool xD, .int .i64 lD, .slice aD nD cD] := vev (hd 23 List.mem_cons_self)
                  have e103 : a'.tmps[103]?.getD undef = .int .u32 x := vev (hd 24 (List.mem_cons_of_mem _ List.mem_cons_self))
                  refine Does2.call 32 #[.agg #[.int .u32 g, .bool xD, .int .i64 lD, .slice aD nD cD], .int .u32 x] (w' := w9) ?_ ((mWants g xD lD aD nD cD sD x w9 NND.out (by have := HRD.out.2.1; rw [NND.out] at this; omega) (SSD.out.below hS) HRD.out.inc HRD.out.nn).mono ?_)
                  · clear hS h0 hd
                    go_simp
                  · rw [FD.out]
                    rintro e w8 ⟨rfl, hb⟩
                    exact ⟨_, rfl, rfl, hS.trans (hb.mono hS.size), hb⟩
                case refine_27 =>
                  intro hrun a' w9 hS h0 hd
                  have e16 : a'.tmps[16]?.getD undef = .bool true := vev (h0 16 (by kernel_rfl))
                  refine Does2.value (.bool true) (w' := w9) ?_ ⟨rfl, hS, Below.refl _ _⟩
                  clear hS h0 hd hrun
                  go_simp
                case refine_28 =>
                  intro hrun a' w9 hS h0 hd
                  have e105 : a'.tmps[105]?.getD undef = .bool true := vev (hd 26 List.mem_cons_self)
                  refine Does2.value (.bool false) (w' := w9) ?_ ⟨rfl, hS, Below.refl _ _⟩
                  clear hS h0 hd hrun
                  go_simp
                case refine_29 =>
                  intro hrun a' w9 hS h0 hd
                  have e106 : a'.tmps[106]?.getD undef = .bool false := vev (hd 27 List.mem_cons_self)
                  refine Does2.value (.bool false) (w' := w9) ?_ ⟨rfl, hS, Below.refl _ _⟩
                  clear hS h0 hd hrun
                  go_simp
                case refine_30 =>
                  intro hrun a' w9 hS h0 hd
                  exact absurd hrun (by decide)
                case refine_31 =>
                  intro hrun a' w9 hS h0 hd
                  exact absurd hrun (by decide)
                case refine_32 =>
                  intro hrun a' w9 hS h0 hd
                  exact absurd hrun (by decide)
                case refine_33 =>
                  intro hrun a' w9 hS h0 hd
                  exact absurd hrun (by decide)
                case refine_34 =>
                  intro hrun a' w9 hS h0 hd
                  have e107 : a'.tmps[107]?.getD undef = .bool false := vev (hd 28 List.mem_cons_self)
                  have e111 : a'.tmps[111]?.getD undef = undef := vev (hd 32 (List.mem_cons_of_mem _ List.mem_cons_self))
                  refine Does2.value (.bool false) (w' := w9) ?_ ⟨rfl, hS, Below.refl _ _⟩
                  clear hS h0 hd hrun
                  go_simp
                case refine_35 =>
                  intro hrun a' w9 hS h0 hd
                  have e104 : a'.tmps[104]?.getD undef = .bool false := vev (hd 25 List.mem_cons_self)
                  have e112 : a'.tmps[112]?.getD undef = .bool false := vev (hd 33 (List.mem_cons_of_mem _ List.mem_cons_self))
                  refine Does2.value (.bool true) (w' := w9) ?_ ⟨rfl, hS, Below.refl _ _⟩
                  clear hS h0 hd hrun
                  go_simp
                case refine_36 =>
                  intro hrun a' w9 hS h0 hd
                  have e101 : a'.tmps[101]?.getD undef = .bool true := vev (hd 22 List.mem_cons_self)
                  have e113 : a'.tmps[113]?.getD undef = .bool true := vev (hd 34 (List.mem_cons_of_mem _ List.mem_cons_self))
                  refine Does2.value (.bool true) (w' := w9) ?_ ⟨rfl, hS, Below.refl _ _⟩
                  clear hS h0 hd hrun
                  go_simp
                case refine_37 =>
                  intro hrun a' w9 hS h0 hd
                  have e114 : a'.tmps[114]?.getD undef = .bool true := vev (hd 35 List.mem_cons_self)
                  refine Does2.value (.bool true) (w' := w9) ?_ ⟨rfl, hS, Below.refl _ _⟩
                  clear hS h0 hd hrun
                  go_simp
                case refine_38 =>
                  intro hrun a' w9 hS h0 hd
                  have e18 : a'.tmps[18]?.getD undef = .pointer (some ⟨w112.heap.size, 0, none⟩) := vev (h0 18 (by kernel_rfl))
                  obtain ⟨y0, y1, y2, y3, -⟩ := (VD.out.below hS VD.out.lt).cells
                  refine Does2.value (.agg #[.int .u32 g, .bool xD, .int .i64 lD, .slice aD nD cD]) (w' := w9) ?_ ⟨rfl, hS, Below.refl _ _⟩
                  clear hS h0 hd hrun
                  go_simp
                case refine_39 =>
                  intro hrun a' w9 hS h0 hd
                  have e116 : a'.tmps[116]?.getD undef = .agg #[.int .u32 g, .bool xD, .int .i64 lD, .slice aD nD cD] := vev (hd 37 List.mem_cons_self)
                  refine Does2.call 33 #[.agg #[.int .u32 g, .bool xD, .int .i64 lD, .slice aD nD cD]] (w' := w9) ?_ ((mSome g xD lD aD nD cD w9).mono ?_)
                  · clear hS h0 hd
                    go_simp
                  · rw [FS.out]
                    rintro e w8 ⟨rfl, hb⟩
                    exact ⟨_, rfl, rfl, hS.trans (hb.mono hS.size), hb⟩
                case refine_40 =>
                  intro hrun a' w9 hS h0 hd
                  have e7 : a'.tmps[7]?.getD undef = .int .i64 t := vev (h0 7 (by kernel_rfl))
                  refine Does2.value (.int .i64 t) (w' := w9) ?_ ⟨rfl, hS, Below.refl _ _⟩
                  clear hS h0 hd hrun
                  go_simp
                case refine_41 =>
                  intro hrun a' w9 hS h0 hd
                  have e3 : a'.tmps[3]?.getD undef = .pointer (some ⟨w.heap.size + 1, 0, none⟩) := vev (h0 3 (by kernel_rfl))
                  refine Does2.value (.pointer (some ⟨w.heap.size + 1, 0, none⟩)) (w' := w9) ?_ ⟨rfl, hS, Below.refl _ _⟩
                  clear hS h0 hd hrun
                  go_simp
                case refine_42 =>
                  intro hrun a' w9 hS h0 hd
                  have e119 : a'.tmps[119]?.getD undef = .pointer (some ⟨w.heap.size + 1, 0, none⟩) := vev (hd 40 List.mem_cons_self)
                  obtain ⟨y0, y1⟩ := TT.out.below hS
                  refine Does2.value (.int .i64 kp) (w' := w9) ?_ ⟨rfl, hS, Below.refl _ _⟩
                  clear hS h0 hd hrun
                  go_simp
                case refine_43 =>
                  intro hrun a' w9 hS h0 hd
                  have e118 : a'.tmps[118]?.getD undef = .int .i64 t := vev (hd 39 List.mem_cons_self)
                  have e120 : a'.tmps[120]?.getD undef = .int .i64 kp := vev (hd 41 (List.mem_cons_of_mem _ List.mem_cons_self))
                  have nkz : decide (t < kp) = true := NK.out
                  refine Does2.value (.bool true) (w' := w9) ?_ ⟨rfl, hS, Below.refl _ _⟩
                  clear hS h0 hd hrun
                  go_simp
                case refine_44 =>
                  intro hrun a' w9 hS h0 hd
                  have e117 : a'.tmps[117]?.getD undef = .bool true := vev (hd 38 List.mem_cons_self)
                  have e121 : a'.tmps[121]?.getD undef = .bool true := vev (hd 42 (List.mem_cons_of_mem _ List.mem_cons_self))
                  refine Does2.value (.bool true) (w' := w9) ?_ ⟨rfl, hS, Below.refl _ _⟩
                  clear hS h0 hd hrun
                  go_simp
                case refine_45 =>
                  intro hrun a' w9 hS h0 hd
                  have e115 : a'.tmps[115]?.getD undef = .bool true := vev (hd 36 List.mem_cons_self)
                  have e122 : a'.tmps[122]?.getD undef = .bool true := vev (hd 43 (List.mem_cons_of_mem _ List.mem_cons_self))
                  refine Does2.value (.bool true) (w' := w9) ?_ ⟨rfl, hS, Below.refl _ _⟩
                  clear hS h0 hd hrun
                  go_simp
                case refine_46 =>
                  intro hrun a' w9 hS h0 hd
                  have e123 : a'.tmps[123]?.getD undef = .bool true := vev (hd 44 List.mem_cons_self)
                  refine Does2.value (.bool true) (w' := w9) ?_ ⟨rfl, hS, Below.refl _ _⟩
                  clear hS h0 hd hrun
                  go_simp
                case hend =>
                  intro f wE hS hv
                  have v2 := hv 45 (by decide)
                  replace v2 : f 2 = .bool true := v2
                  simp only [putAll, Act.put, List.setIfInBounds_toArray, List.set_cons_zero, List.set_cons_succ, v2]
                  have BB := Lib.hid (BB.out.trans (hS.mono BB.out.size))
                  clear hS hv v2
                  go_wp2_with fail
                  go_ret
                  exact ⟨rfl, BB.out⟩
      · have q3' : (60 : Int) < (ln : Int) := by omega
        clear q3
        obtain ⟨TT0, TT1⟩ := TT.out
        obtain ⟨VM0, VM1, VM2, VM3, -⟩ := VM.out.cells
        go_wp2_with fail
        go_ret
        exact ⟨rfl, BB.out⟩
    · rw [decide_eq_false q2]
      clear q2
      obtain ⟨TT0, TT1⟩ := TT.out
      obtain ⟨VM0, VM1, VM2, VM3, -⟩ := VM.out.cells
      go_wp2_with fail
      go_ret
      exact ⟨rfl, BB.out⟩
  · rw [decide_eq_false q1]
    clear q1
    obtain ⟨TT0, TT1⟩ := TT.out
    obtain ⟨VM0, VM1, VM2, VM3, -⟩ := VM.out.cells
    go_wp2_with fail
    go_ret
    exact ⟨rfl, BB.out⟩

set_option maxRecDepth 100000 in
theorem contract (H : Type) (enc : TypeId × Value → H) (W : World) (base : Nat) (args : Array Value) (ds gs : List (DataW H)) (before : List MemPlace)
    (hval : ∀ (j : Nat) t v, Try.f5.params[j]? = some t → args[j]? = some v → Value.okWide Try.prog W .any base t v)
    (hW : DataW.Whole enc Try.prog Try.f5.params.toList Rows.membKeepsSpec.vars false W args.toList ds gs before) (hsz : (DataW.weightsEach Try.prog (Try.f5.params.toList ++ Rows.membKeepsSpec.plain.varTypes Try.prog) (ds ++ gs)).all (· ≤ reachBytes) = true) :
    Calls Try.prog 5 args W fun e W' => ∃ v, e = .returned v ∧ Rows.membKeepsSpec.post enc Try.prog Try.f5 false true false false W args v W' := by
  have hW' := hW
  obtain ⟨p, q, hA0, hV, rfl, hfz, hnd⟩ := hW
  have hA : DataW.TrodAll enc Try.prog W 0 (fun _ => true) true Try.f5.params.toList args.toList ds p := hA0
  rw [Try.params5] at hA hval
  obtain ⟨v0, vs0, d0, ds0, p0, q0, hargs, rfl, rfl, h0, r0⟩ := trodAll_cons hA
  obtain ⟨rfl, rfl, rfl⟩ := trodAll_nil r0
  obtain rfl : args = #[v0] := by cases args; simp_all
  obtain ⟨rfl, rfl⟩ := trodVars_none hV
  have k0 := h0
  have lt0 : ∀ x ∈ p0, x.block < W.heap.size := by obtain ⟨m, hm⟩ := k0; exact DataW.trod_lt m _ _ _ hm
  obtain ⟨kq0, l0, g0, b0, e0, t0, u0, n0, rfl, q10, q20, q30, q40, q50⟩ := open_keeps (hval 0 62 v0 rfl rfl) h0 (fun x hx => by simpa using List.all_eq_true.1 hsz _ (DataW.weights_mem_each (j := 0) rfl rfl x hx))
  clear hA0
  refine (walk W kq0 l0 g0 b0 e0 t0 u0 n0 q10 q20 q30 q40 q50).mono fun e W' ⟨he, bel⟩ => ?_
  subst he
  exact ⟨_, rfl, _, _, _, [], _, [], hW', trodAll_mk1 (shut_bool Try.underlying4 _), (trodAll_cons_mk (Below.trod laidOut (by kernel_rfl) (of_decide_eq_true (by kernel_rfl)) k0 bel lt0) trodAll_mk0), rfl, bel.frame _, fun h => by cases h⟩

set_option maxRecDepth 100000 in
theorem lifted (os : Os) (started : os.Started) (H : Type) (enc : TypeId × Value → H) :
    ReturnsInHanded {} Try.checked os 5 .any (Rows.membKeepsSpec.pre6 enc Try.prog Try.f5 Rows.membKeepsRow.domain false) (Rows.membKeepsSpec.post enc Try.prog Try.f5 false true false false) := by
  refine returnsInHanded_of_change_sized (C := Try.checked) own started (by kernel_rfl) Try.func5
    (ChangeSpec.witness6 (enc := enc) (C := Try.checked) false ⟨#[], #[(.agg #[.int .i64 0, .int .i64 0, .int .u32 0, .slice none 0 0, .int .u32 0, .int .i64 0])], []⟩ 8 (by kernel_rfl) (by kernel_rfl) (by kernel_rfl) (by kernel_rfl)) ?_
  intro W base args ds gs before hval hW hcnd hsz _
  exact contract H enc W base args ds gs before hval hW hsz
theorem said : Rows.MembKeepsSaid :=
  OpenClaim.holds_of_wide 5 Try.f5 rfl rfl rfl rfl rfl rfl rfl ⟨rfl, rfl, rfl, rfl, rfl⟩ rfl rfl rfl rfl rfl (by kernel_rfl) Try.func5 (by kernel_rfl)
    (of_decide_eq_true (by kernel_rfl)) (by unfold Func.isWrapper; first | (rw [if_pos (by decide +kernel)]; kernel_rfl) | (rw [if_neg (by decide +kernel)]; exact ⟨rfl, rfl⟩))
    (fun os started H enc _ => lifted os started H enc)
#print axioms said
end Go.Proofs.Ytllpmepmgnnoaaa.membKeeps
