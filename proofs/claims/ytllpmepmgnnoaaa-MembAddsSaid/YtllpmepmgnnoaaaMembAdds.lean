/- The law MembAdds: every call returns true, and its arguments read behind the call as before it. Condition: none but the row's own. -/
import Derived.Test.YtllpmepmgnnoaaaY14
namespace Go.Proofs.Ytllpmepmgnnoaaa.membAdds
set_option linter.unusedVariables false
open Go.ChangeShapes Go.WideShapes Go.ChangeAt Go.RowKit
open Go.ChangeMaps (open_string shut_string)

def adyfyV (g x : Int) (ex : Bool) (left : Int) (a : Option Addr) (n c : Nat) (xA : Bool) (lA : Int) (aA : Option Addr) (nA cA : Nat) (xB : Bool) (lB : Int) (aB : Option Addr) (nB cB : Nat) (eA eB : Int) (bx mw : Bool) : Nat → Value → List Value → World → Prop
  | 0, v, _, _ => v = .int .i64 0
  | 1, v, _, _ => v = .bool true
  | 2, v, _, _ => v = .bool true
  | 3, v, _, _ => v = .agg #[.int .u32 g, .bool xA, .int .i64 lA, .slice aA nA cA]
  | 4, v, _, _ => v = .int .u32 x
  | 5, v, _, _ => v = .bool bx
  | 6, v, _, _ => v = .agg #[.int .u32 g, .bool ex, .int .i64 left, .slice a n c]
  | 7, v, _, _ => v = .int .u32 x
  | 8, v, _, _ => v = .bool false
  | 9, v, _, _ => v = .bool false
  | 10, v, _, _ => v = .bool bx
  | 11, v, _, _ => v = .bool bx
  | 12, v, _, _ => v = .bool false
  | 13, v, _, _ => v = .bool false
  | 14, v, _, _ => v = .bool false
  | 15, v, _, _ => v = .int .i64 0
  | 16, v, _, _ => v = .bool true
  | 17, v, _, _ => v = .bool true
  | 18, v, _, _ => v = .agg #[.int .u32 g, .bool xB, .int .i64 lB, .slice aB nB cB]
  | 19, v, _, _ => v = .int .u32 x
  | 20, v, _, _ => v = .bool false
  | 21, v, _, _ => v = .agg #[.int .u32 g, .bool ex, .int .i64 left, .slice a n c]
  | 22, v, _, _ => v = .int .u32 x
  | 23, v, _, _ => v = .bool false
  | 24, v, _, _ => v = .bool false
  | 25, v, _, _ => v = .bool false
  | 26, v, _, _ => v = .bool false
  | _, _, _, _ => True
def adyfyD : Nat → List Nat
  | 1 => [0]
  | 2 => [1]
  | 3 => [2]
  | 4 => [2]
  | 5 => [3, 4, 2]
  | 6 => [2]
  | 7 => [2]
  | 8 => [6, 7, 2]
  | 9 => [8, 2]
  | 10 => [9]
  | 11 => [9, 10, 2]
  | 12 => [5, 11, 2]
  | 13 => [2, 12]
  | 14 => [13]
  | 15 => [14]
  | 16 => [15, 14]
  | 17 => [16, 14]
  | 18 => [17]
  | 19 => [17]
  | 20 => [18, 19, 17]
  | 21 => [17]
  | 22 => [17]
  | 23 => [21, 22, 17]
  | 24 => [20, 23, 17]
  | 25 => [17, 24, 14]
  | 26 => [14, 25]
  | _ => []
theorem adyfy_st (g x : Int) (ex : Bool) (left : Int) (a : Option Addr) (n c : Nat) (xA : Bool) (lA : Int) (aA : Option Addr) (nA cA : Nat) (xB : Bool) (lB : Int) (aB : Option Addr) (nB cB : Nat) (eA eB : Int) (bx mw : Bool) {i : Nat} {v : Value} {us : List Value} {w w' : World}  (hr : Below w.heap.size w w') (hv : adyfyV g x ex left a n c xA lA aA nA cA xB lB aB nB cB eA eB bx mw i v us w) : adyfyV g x ex left a n c xA lA aA nA cA xB lB aB nB cB eA eB bx mw i v us w' := by
  unfold adyfyV at hv ⊢
  split at hv
  all_goals first
    | exact hv
def adyfnV (g x : Int) (ex : Bool) (left : Int) (a : Option Addr) (n c : Nat) (xA : Bool) (lA : Int) (aA : Option Addr) (nA cA : Nat) (xB : Bool) (lB : Int) (aB : Option Addr) (nB cB : Nat) (eA eB : Int) (bx mw : Bool) : Nat → Value → List Value → World → Prop
  | 0, v, _, _ => v = .int .i64 0
  | 1, v, _, _ => v = .bool true
  | 2, v, _, _ => v = .bool true
  | 3, v, _, _ => v = .agg #[.int .u32 g, .bool xA, .int .i64 lA, .slice aA nA cA]
  | 4, v, _, _ => v = .int .u32 x
  | 5, v, _, _ => v = .bool bx
  | 6, v, _, _ => v = .agg #[.int .u32 g, .bool ex, .int .i64 left, .slice a n c]
  | 7, v, _, _ => v = .int .u32 x
  | 8, v, _, _ => v = .bool false
  | 9, v, _, _ => v = .bool false
  | 10, v, _, _ => v = .bool bx
  | 11, v, _, _ => v = .bool bx
  | 12, v, _, _ => v = .bool false
  | 13, v, _, _ => v = .bool false
  | 14, v, _, _ => v = .bool false
  | 15, v, _, _ => v = .int .i64 eB
  | 16, v, _, _ => v = .bool false
  | 17, v, _, _ => v = .bool false
  | 18, v, _, _ => v = undef
  | 19, v, _, _ => v = undef
  | 20, v, _, _ => v = undef
  | 21, v, _, _ => v = undef
  | 22, v, _, _ => v = undef
  | 23, v, _, _ => v = undef
  | 24, v, _, _ => v = undef
  | 25, v, _, _ => v = .bool false
  | 26, v, _, _ => v = .bool false
  | _, _, _, _ => True
def adyfnD : Nat → List Nat
  | 1 => [0]
  | 2 => [1]
  | 3 => [2]
  | 4 => [2]
  | 5 => [3, 4, 2]
  | 6 => [2]
  | 7 => [2]
  | 8 => [6, 7, 2]
  | 9 => [8, 2]
  | 10 => [9]
  | 11 => [9, 10, 2]
  | 12 => [5, 11, 2]
  | 13 => [2, 12]
  | 14 => [13]
  | 15 => [14]
  | 16 => [15, 14]
  | 17 => [16, 14]
  | 18 => [17]
  | 19 => [17]
  | 20 => [18, 19, 17]
  | 21 => [17]
  | 22 => [17]
  | 23 => [21, 22, 17]
  | 24 => [20, 23, 17]
  | 25 => [17, 24, 14]
  | 26 => [14, 25]
  | _ => []
def adyfnN (i : Nat) : Bool := !([18, 19, 20, 21, 22, 23, 24] : List Nat).contains i
theorem adyfn_st (g x : Int) (ex : Bool) (left : Int) (a : Option Addr) (n c : Nat) (xA : Bool) (lA : Int) (aA : Option Addr) (nA cA : Nat) (xB : Bool) (lB : Int) (aB : Option Addr) (nB cB : Nat) (eA eB : Int) (bx mw : Bool) {i : Nat} {v : Value} {us : List Value} {w w' : World}  (hr : Below w.heap.size w w') (hv : adyfnV g x ex left a n c xA lA aA nA cA xB lB aB nB cB eA eB bx mw i v us w) : adyfnV g x ex left a n c xA lA aA nA cA xB lB aB nB cB eA eB bx mw i v us w' := by
  unfold adyfnV at hv ⊢
  split at hv
  all_goals first
    | exact hv
def adytyV (g x : Int) (ex : Bool) (left : Int) (a : Option Addr) (n c : Nat) (xA : Bool) (lA : Int) (aA : Option Addr) (nA cA : Nat) (xB : Bool) (lB : Int) (aB : Option Addr) (nB cB : Nat) (eA eB : Int) (bx mw : Bool) : Nat → Value → List Value → World → Prop
  | 0, v, _, _ => v = .int .i64 0
  | 1, v, _, _ => v = .bool true
  | 2, v, _, _ => v = .bool true
  | 3, v, _, _ => v = .agg #[.int .u32 g, .bool xA, .int .i64 lA, .slice aA nA cA]
  | 4, v, _, _ => v = .int .u32 x
  | 5, v, _, _ => v = .bool true
  | 6, v, _, _ => v = .agg #[.int .u32 g, .bool ex, .int .i64 left, .slice a n c]
  | 7, v, _, _ => v = .int .u32 x
  | 8, v, _, _ => v = .bool true
  | 9, v, _, _ => v = .bool true
  | 10, v, _, _ => v = undef
  | 11, v, _, _ => v = .bool true
  | 12, v, _, _ => v = .bool false
  | 13, v, _, _ => v = .bool false
  | 14, v, _, _ => v = .bool false
  | 15, v, _, _ => v = .int .i64 0
  | 16, v, _, _ => v = .bool true
  | 17, v, _, _ => v = .bool true
  | 18, v, _, _ => v = .agg #[.int .u32 g, .bool xB, .int .i64 lB, .slice aB nB cB]
  | 19, v, _, _ => v = .int .u32 x
  | 20, v, _, _ => v = .bool true
  | 21, v, _, _ => v = .agg #[.int .u32 g, .bool ex, .int .i64 left, .slice a n c]
  | 22, v, _, _ => v = .int .u32 x
  | 23, v, _, _ => v = .bool true
  | 24, v, _, _ => v = .bool false
  | 25, v, _, _ => v = .bool false
  | 26, v, _, _ => v = .bool false
  | _, _, _, _ => True
def adytyD : Nat → List Nat
  | 1 => [0]
  | 2 => [1]
  | 3 => [2]
  | 4 => [2]
  | 5 => [3, 4, 2]
  | 6 => [2]
  | 7 => [2]
  | 8 => [6, 7, 2]
  | 9 => [8, 2]
  | 10 => [9]
  | 11 => [9, 10, 2]
  | 12 => [5, 11, 2]
  | 13 => [2, 12]
  | 14 => [13]
  | 15 => [14]
  | 16 => [15, 14]
  | 17 => [16, 14]
  | 18 => [17]
  | 19 => [17]
  | 20 => [18, 19, 17]
  | 21 => [17]
  | 22 => [17]
  | 23 => [21, 22, 17]
  | 24 => [20, 23, 17]
  | 25 => [17, 24, 14]
  | 26 => [14, 25]
  | _ => []
def adytyN (i : Nat) : Bool := !([10] : List Nat).contains i
theorem adyty_st (g x : Int) (ex : Bool) (left : Int) (a : Option Addr) (n c : Nat) (xA : Bool) (lA : Int) (aA : Option Addr) (nA cA : Nat) (xB : Bool) (lB : Int) (aB : Option Addr) (nB cB : Nat) (eA eB : Int) (bx mw : Bool) {i : Nat} {v : Value} {us : List Value} {w w' : World}  (hr : Below w.heap.size w w') (hv : adytyV g x ex left a n c xA lA aA nA cA xB lB aB nB cB eA eB bx mw i v us w) : adytyV g x ex left a n c xA lA aA nA cA xB lB aB nB cB eA eB bx mw i v us w' := by
  unfold adytyV at hv ⊢
  split at hv
  all_goals first
    | exact hv
def adytnV (g x : Int) (ex : Bool) (left : Int) (a : Option Addr) (n c : Nat) (xA : Bool) (lA : Int) (aA : Option Addr) (nA cA : Nat) (xB : Bool) (lB : Int) (aB : Option Addr) (nB cB : Nat) (eA eB : Int) (bx mw : Bool) : Nat → Value → List Value → World → Prop
  | 0, v, _, _ => v = .int .i64 0
  | 1, v, _, _ => v = .bool true
  | 2, v, _, _ => v = .bool true
  | 3, v, _, _ => v = .agg #[.int .u32 g, .bool xA, .int .i64 lA, .slice aA nA cA]
  | 4, v, _, _ => v = .int .u32 x
  | 5, v, _, _ => v = .bool true
  | 6, v, _, _ => v = .agg #[.int .u32 g, .bool ex, .int .i64 left, .slice a n c]
  | 7, v, _, _ => v = .int .u32 x
  | 8, v, _, _ => v = .bool true
  | 9, v, _, _ => v = .bool true
  | 10, v, _, _ => v = undef
  | 11, v, _, _ => v = .bool true
  | 12, v, _, _ => v = .bool false
  | 13, v, _, _ => v = .bool false
  | 14, v, _, _ => v = .bool false
  | 15, v, _, _ => v = .int .i64 eB
  | 16, v, _, _ => v = .bool false
  | 17, v, _, _ => v = .bool false
  | 18, v, _, _ => v = undef
  | 19, v, _, _ => v = undef
  | 20, v, _, _ => v = undef
  | 21, v, _, _ => v = undef
  | 22, v, _, _ => v = undef
  | 23, v, _, _ => v = undef
  | 24, v, _, _ => v = undef
  | 25, v, _, _ => v = .bool false
  | 26, v, _, _ => v = .bool false
  | _, _, _, _ => True
def adytnD : Nat → List Nat
  | 1 => [0]
  | 2 => [1]
  | 3 => [2]
  | 4 => [2]
  | 5 => [3, 4, 2]
  | 6 => [2]
  | 7 => [2]
  | 8 => [6, 7, 2]
  | 9 => [8, 2]
  | 10 => [9]
  | 11 => [9, 10, 2]
  | 12 => [5, 11, 2]
  | 13 => [2, 12]
  | 14 => [13]
  | 15 => [14]
  | 16 => [15, 14]
  | 17 => [16, 14]
  | 18 => [17]
  | 19 => [17]
  | 20 => [18, 19, 17]
  | 21 => [17]
  | 22 => [17]
  | 23 => [21, 22, 17]
  | 24 => [20, 23, 17]
  | 25 => [17, 24, 14]
  | 26 => [14, 25]
  | _ => []
def adytnN (i : Nat) : Bool := !([10, 18, 19, 20, 21, 22, 23, 24] : List Nat).contains i
theorem adytn_st (g x : Int) (ex : Bool) (left : Int) (a : Option Addr) (n c : Nat) (xA : Bool) (lA : Int) (aA : Option Addr) (nA cA : Nat) (xB : Bool) (lB : Int) (aB : Option Addr) (nB cB : Nat) (eA eB : Int) (bx mw : Bool) {i : Nat} {v : Value} {us : List Value} {w w' : World}  (hr : Below w.heap.size w w') (hv : adytnV g x ex left a n c xA lA aA nA cA xB lB aB nB cB eA eB bx mw i v us w) : adytnV g x ex left a n c xA lA aA nA cA xB lB aB nB cB eA eB bx mw i v us w' := by
  unfold adytnV at hv ⊢
  split at hv
  all_goals first
    | exact hv
def adnmyV (g x : Int) (ex : Bool) (left : Int) (a : Option Addr) (n c : Nat) (xA : Bool) (lA : Int) (aA : Option Addr) (nA cA : Nat) (xB : Bool) (lB : Int) (aB : Option Addr) (nB cB : Nat) (eA eB : Int) (bx mw : Bool) : Nat → Value → List Value → World → Prop
  | 0, v, _, _ => v = .int .i64 eA
  | 1, v, _, _ => v = .bool false
  | 2, v, _, _ => v = .bool false
  | 3, v, _, _ => v = undef
  | 4, v, _, _ => v = undef
  | 5, v, _, _ => v = undef
  | 6, v, _, _ => v = undef
  | 7, v, _, _ => v = undef
  | 8, v, _, _ => v = undef
  | 9, v, _, _ => v = undef
  | 10, v, _, _ => v = undef
  | 11, v, _, _ => v = undef
  | 12, v, _, _ => v = undef
  | 13, v, _, _ => v = .bool false
  | 14, v, _, _ => v = .bool false
  | 15, v, _, _ => v = .int .i64 0
  | 16, v, _, _ => v = .bool true
  | 17, v, _, _ => v = .bool true
  | 18, v, _, _ => v = .agg #[.int .u32 g, .bool xB, .int .i64 lB, .slice aB nB cB]
  | 19, v, _, _ => v = .int .u32 x
  | 20, v, _, _ => v = .bool mw
  | 21, v, _, _ => v = .agg #[.int .u32 g, .bool ex, .int .i64 left, .slice a n c]
  | 22, v, _, _ => v = .int .u32 x
  | 23, v, _, _ => v = .bool mw
  | 24, v, _, _ => v = .bool false
  | 25, v, _, _ => v = .bool false
  | 26, v, _, _ => v = .bool false
  | _, _, _, _ => True
def adnmyD : Nat → List Nat
  | 1 => [0]
  | 2 => [1]
  | 3 => [2]
  | 4 => [2]
  | 5 => [3, 4, 2]
  | 6 => [2]
  | 7 => [2]
  | 8 => [6, 7, 2]
  | 9 => [8, 2]
  | 10 => [9]
  | 11 => [9, 10, 2]
  | 12 => [5, 11, 2]
  | 13 => [2, 12]
  | 14 => [13]
  | 15 => [14]
  | 16 => [15, 14]
  | 17 => [16, 14]
  | 18 => [17]
  | 19 => [17]
  | 20 => [18, 19, 17]
  | 21 => [17]
  | 22 => [17]
  | 23 => [21, 22, 17]
  | 24 => [20, 23, 17]
  | 25 => [17, 24, 14]
  | 26 => [14, 25]
  | _ => []
def adnmyN (i : Nat) : Bool := !([3, 4, 5, 6, 7, 8, 9, 10, 11, 12] : List Nat).contains i
theorem adnmy_st (g x : Int) (ex : Bool) (left : Int) (a : Option Addr) (n c : Nat) (xA : Bool) (lA : Int) (aA : Option Addr) (nA cA : Nat) (xB : Bool) (lB : Int) (aB : Option Addr) (nB cB : Nat) (eA eB : Int) (bx mw : Bool) {i : Nat} {v : Value} {us : List Value} {w w' : World}  (hr : Below w.heap.size w w') (hv : adnmyV g x ex left a n c xA lA aA nA cA xB lB aB nB cB eA eB bx mw i v us w) : adnmyV g x ex left a n c xA lA aA nA cA xB lB aB nB cB eA eB bx mw i v us w' := by
  unfold adnmyV at hv ⊢
  split at hv
  all_goals first
    | exact hv
def adnmnV (g x : Int) (ex : Bool) (left : Int) (a : Option Addr) (n c : Nat) (xA : Bool) (lA : Int) (aA : Option Addr) (nA cA : Nat) (xB : Bool) (lB : Int) (aB : Option Addr) (nB cB : Nat) (eA eB : Int) (bx mw : Bool) : Nat → Value → List Value → World → Prop
  | 0, v, _, _ => v = .int .i64 eA
  | 1, v, _, _ => v = .bool false
  | 2, v, _, _ => v = .bool false
  | 3, v, _, _ => v = undef
  | 4, v, _, _ => v = undef
  | 5, v, _, _ => v = undef
  | 6, v, _, _ => v = undef
  | 7, v, _, _ => v = undef
  | 8, v, _, _ => v = undef
  | 9, v, _, _ => v = undef
  | 10, v, _, _ => v = undef
  | 11, v, _, _ => v = undef
  | 12, v, _, _ => v = undef
  | 13, v, _, _ => v = .bool false
  | 14, v, _, _ => v = .bool false
  | 15, v, _, _ => v = .int .i64 eB
  | 16, v, _, _ => v = .bool false
  | 17, v, _, _ => v = .bool false
  | 18, v, _, _ => v = undef
  | 19, v, _, _ => v = undef
  | 20, v, _, _ => v = undef
  | 21, v, _, _ => v = undef
  | 22, v, _, _ => v = undef
  | 23, v, _, _ => v = undef
  | 24, v, _, _ => v = undef
  | 25, v, _, _ => v = .bool false
  | 26, v, _, _ => v = .bool false
  | _, _, _, _ => True
def adnmnD : Nat → List Nat
  | 1 => [0]
  | 2 => [1]
  | 3 => [2]
  | 4 => [2]
  | 5 => [3, 4, 2]
  | 6 => [2]
  | 7 => [2]
  | 8 => [6, 7, 2]
  | 9 => [8, 2]
  | 10 => [9]
  | 11 => [9, 10, 2]
  | 12 => [5, 11, 2]
  | 13 => [2, 12]
  | 14 => [13]
  | 15 => [14]
  | 16 => [15, 14]
  | 17 => [16, 14]
  | 18 => [17]
  | 19 => [17]
  | 20 => [18, 19, 17]
  | 21 => [17]
  | 22 => [17]
  | 23 => [21, 22, 17]
  | 24 => [20, 23, 17]
  | 25 => [17, 24, 14]
  | 26 => [14, 25]
  | _ => []
def adnmnN (i : Nat) : Bool := !([3, 4, 5, 6, 7, 8, 9, 10, 11, 12, 18, 19, 20, 21, 22, 23, 24] : List Nat).contains i
theorem adnmn_st (g x : Int) (ex : Bool) (left : Int) (a : Option Addr) (n c : Nat) (xA : Bool) (lA : Int) (aA : Option Addr) (nA cA : Nat) (xB : Bool) (lB : Int) (aB : Option Addr) (nB cB : Nat) (eA eB : Int) (bx mw : Bool) {i : Nat} {v : Value} {us : List Value} {w w' : World}  (hr : Below w.heap.size w w') (hv : adnmnV g x ex left a n c xA lA aA nA cA xB lB aB nB cB eA eB bx mw i v us w) : adnmnV g x ex left a n c xA lA aA nA cA xB lB aB nB cB eA eB bx mw i v us w' := by
  unfold adnmnV at hv ⊢
  split at hv
  all_goals first
    | exact hv
set_option linter.unusedSimpArgs false in
set_option maxRecDepth 100000 in
set_option maxHeartbeats 16000000 in
theorem walk (w : World) (kp la g : Int) (ex : Bool) (left : Int) (a : Option Addr) (c : Nat) (s : List Hd) (b : Option Addr) (cb : Nat) (xs : List Int) (x : Int) (hs : Hs w a s) (hn : List.length s ≤ 1125899906842624) (hnil : a = none → c = 0) (hg : 0 ≤ g ∧ g ≤ 4294967295) (ha : As w b xs) (hna : List.length xs ≤ 1125899906842624) (hnila : b = none → cb = 0) :
    Calls Try.prog 6 #[.agg #[.int .i64 kp, .int .i64 la, .int .u32 g, .bool ex, .int .i64 left, .slice a (List.length s) c, .slice b (List.length xs) cb, .int .u32 x]] w fun e w' => e = .returned (.bool true) ∧ Below w.heap.size w w' := by
  obtain ⟨n, hn1⟩ : ∃ n, s.length = n := ⟨_, rfl⟩
  obtain ⟨ln, hln⟩ : ∃ ln, xs.length = ln := ⟨_, rfl⟩
  rw [hn1] at hn ⊢
  rw [hln] at hna ⊢
  have HX := Lib.hid hn1
  have HL := Lib.hid hln
  have HNIL := Lib.hid hnil
  have HNILA := Lib.hid hnila
  have HG := Lib.hid hg
  obtain ⟨w1, hw1⟩ : ∃ w1, w1 = ((w.alloc (.cells #[.int .i64 kp, .int .i64 la, .int .u32 g, .bool ex, .int .i64 left, .slice a n c, .slice b ln cb, .int .u32 x] 67)).alloc (.cells #[.int .i64 kp, .int .i64 la] 45)).alloc (.cells #[.int .u32 g, .bool ex, .int .i64 left, .slice a n c] 48) := ⟨_, rfl⟩
  obtain ⟨tc, mv, hb⟩ := mkLaw w _ _ kp la g ex left a n c w1 hw1
  have BB := Lib.hid hb
  have TT := Lib.hid tc
  have VM := Lib.hid mv
  have SM := Lib.hid (hs.below hb)
  have SL := Lib.hid (ha.below hb)
  clear hn1 hln hnil hnila hg tc mv hb hs ha
  go_enter Try.func6, Try.ntmps6
  go_wp2_with fail
  rw [← hw1]
  clear hw1
  refine (mShown w1).mono ?_
  rintro e w101 ⟨rfl, hb⟩
  have BB := Lib.hid (BB.out.trans (hb.mono BB.out.size))
  have SM := Lib.hid (SM.out.below hb)
  have SL := Lib.hid (SL.out.below hb)
  have TT := Lib.hid (TT.out.below hb)
  have VM := Lib.hid (VM.out.below hb VM.out.lt)
  clear hb
  obtain ⟨TT0, TT1⟩ := TT.out
  obtain ⟨VM0, VM1, VM2, VM3, -⟩ := VM.out.cells
  go_wp2_with fail
  refine (rMay8 kp la _).mono ?_
  rintro e w102 ⟨rfl, hb⟩
  clear TT0 TT1 VM0 VM1 VM2 VM3
  have BB := Lib.hid (BB.out.trans (hb.mono BB.out.size))
  have SM := Lib.hid (SM.out.below hb)
  have SL := Lib.hid (SL.out.below hb)
  have TT := Lib.hid (TT.out.below hb)
  have VM := Lib.hid (VM.out.below hb VM.out.lt)
  clear hb
  by_cases q1 : mayP kp la
  · rw [decide_eq_true q1]
    have MAY := Lib.hid q1
    clear q1
    obtain ⟨TT0, TT1⟩ := TT.out
    obtain ⟨VM0, VM1, VM2, VM3, -⟩ := VM.out.cells
    go_wp2_with fail
    refine (rRight8 g ex left a n c s _ HX.out SM.out (by omega)).mono ?_
    rintro e w103 ⟨rfl, hb⟩
    clear TT0 TT1 VM0 VM1 VM2 VM3
    have BB := Lib.hid (BB.out.trans (hb.mono BB.out.size))
    have SM := Lib.hid (SM.out.below hb)
    have SL := Lib.hid (SL.out.below hb)
    have TT := Lib.hid (TT.out.below hb)
    have VM := Lib.hid (VM.out.below hb VM.out.lt)
    clear hb
    by_cases q2 : okM g ex left s
    · rw [decide_eq_true q2]
      have OK := Lib.hid q2
      have TB := Lib.hid (may_T MAY.out q2 HG.out)
      have hn64 : n ≤ 64 := by have := q2.2.1; rw [HX.out] at this; exact this
      clear q2
      by_cases q3 : ln ≤ 200
      · have q3' : decide ((200 : Int) < (ln : Int)) = false := decide_eq_false (by omega)
        obtain ⟨mw, hmw⟩ : ∃ mw, wantsP ex s x = mw := ⟨_, rfl⟩
        have MW := Lib.hid hmw
        clear hmw
        obtain ⟨TT0, TT1⟩ := TT.out
        obtain ⟨VM0, VM1, VM2, VM3, -⟩ := VM.out.cells
        go_wp2_with fail
        refine (mHear 5 kp la g ex left a n c s b ln cb xs _ HX.out hn64 SM.out HNIL.out OK.out.inc HL.out q3 SL.out HNILA.out TB.out).mono ?_
        rintro e w104 ⟨⟨aA, cA, aaA, ccA, rsA, rfl, hA, mA, qA⟩, hb⟩
        clear TT0 TT1 VM0 VM1 VM2 VM3
        have BB := Lib.hid (BB.out.trans (hb.mono BB.out.size))
        have SM := Lib.hid (SM.out.below hb)
        have SL := Lib.hid (SL.out.below hb)
        have TT := Lib.hid (TT.out.below hb)
        have VM := Lib.hid (VM.out.below hb VM.out.lt)
        clear hb
        have HRA := Lib.hid (hear_ok 5 xs MAY.out OK.out)
        have SSA := Lib.hid hA.1
        have MMA := Lib.hid mA
        have QQA := Lib.hid qA
        clear hA mA qA
        have FA1 : Hid ((hearP g kp la ex left s 5 xs).er = 0 → wantsP (hearP g kp la ex left s 5 xs).ex (hearP g kp la ex left s 5 xs).s x = (wantsP ex s x || decide (x ∈ xs))) := Lib.hid (fun he => adds_allow MAY.out OK.out x he)
        obtain ⟨rA, hrA⟩ : ∃ r, hearP g kp la ex left s 5 xs = r := ⟨_, rfl⟩
        rw [hrA] at HRA SSA MMA FA1 ⊢
        clear hrA
        obtain ⟨xA, lA, sA, qqA, eA⟩ := rA
        simp only at HRA SSA MMA FA1 ⊢
        obtain ⟨nA, hnnA⟩ : ∃ nn, sA.length = nn := ⟨_, rfl⟩
        have NNA := Lib.hid hnnA
        rw [hnnA]
        clear hnnA
        obtain ⟨nqA, hnqA⟩ : ∃ nn, List.length rsA = nn := ⟨_, rfl⟩
        have NQA := Lib.hid hnqA
        rw [hnqA]
        clear hnqA
        have hbn := bel1 w104 (.cells #[.int .u32 g, .bool xA, .int .i64 lA, .slice aA nA cA] 48)
        have VAn := MV.new w104 g xA lA aA nA cA
        have BB := Lib.hid (BB.out.trans (hbn.mono BB.out.size))
        have SM := Lib.hid (SM.out.below hbn)
        have SL := Lib.hid (SL.out.below hbn)
        have SSA := Lib.hid (SSA.out.below hbn)
        have QQA := Lib.hid (QQA.out.below hbn)
        have TT := Lib.hid (TT.out.below hbn)
        have VM := Lib.hid (VM.out.below hbn VM.out.lt)
        clear hbn
        have VA := Lib.hid VAn
        clear VAn
        obtain ⟨TT0, TT1⟩ := TT.out
        obtain ⟨VM0, VM1, VM2, VM3, -⟩ := VM.out.cells
        obtain ⟨VA0, VA1, VA2, VA3, -⟩ := VA.out.cells
        go_wp2_with fail
        generalize w104.alloc (.cells #[.int .u32 g, .bool xA, .int .i64 lA, .slice aA nA cA] 48) = w105 at *
        refine (mHear 6 kp la g ex left a n c s b ln cb xs _ HX.out hn64 SM.out HNIL.out OK.out.inc HL.out q3 SL.out HNILA.out TB.out).mono ?_
        rintro e w106 ⟨⟨aB, cB, aaB, ccB, rsB, rfl, hB, mB, qB⟩, hb⟩
        clear TT0 TT1 VM0 VM1 VM2 VM3 VA0 VA1 VA2 VA3
        have BB := Lib.hid (BB.out.trans (hb.mono BB.out.size))
        have SM := Lib.hid (SM.out.below hb)
        have SL := Lib.hid (SL.out.below hb)
        have SSA := Lib.hid (SSA.out.below hb)
        have QQA := Lib.hid (QQA.out.below hb)
        have TT := Lib.hid (TT.out.below hb)
        have VM := Lib.hid (VM.out.below hb VM.out.lt)
        have VA := Lib.hid (VA.out.below hb VA.out.lt)
        clear hb
        have HRB := Lib.hid (hear_ok 6 xs MAY.out OK.out)
        have SSB := Lib.hid hB.1
        have MMB := Lib.hid mB
        have QQB := Lib.hid qB
        clear hB mB qB
        have FB1 : Hid ((hearP g kp la ex left s 6 xs).er = 0 → wantsP (hearP g kp la ex left s 6 xs).ex (hearP g kp la ex left s 6 xs).s x = wantsP ex s x) := Lib.hid (fun he => adds_block MAY.out OK.out x he)
        have FB2 : Hid ((hearP g kp la ex left s 6 xs).er = 0 → x ∈ xs → wantsP (tkE (hearP g kp la ex left s 6 xs).ex (hearP g kp la ex left s 6 xs).left la) (tkS (hearP g kp la ex left s 6 xs).ex (hearP g kp la ex left s 6 xs).left (hearP g kp la ex left s 6 xs).s la) x = false) := Lib.hid (fun he => adds_gone MAY.out OK.out x he)
        obtain ⟨rB, hrB⟩ : ∃ r, hearP g kp la ex left s 6 xs = r := ⟨_, rfl⟩
        rw [hrB] at HRB SSB MMB FB1 FB2 ⊢
        clear hrB
        obtain ⟨xB, lB, sB, qqB, eB⟩ := rB
        simp only at HRB SSB MMB FB1 FB2 ⊢
        obtain ⟨nB, hnnB⟩ : ∃ nn, sB.length = nn := ⟨_, rfl⟩
        have NNB := Lib.hid hnnB
        rw [hnnB]
        clear hnnB
        obtain ⟨nqB, hnqB⟩ : ∃ nn, List.length rsB = nn := ⟨_, rfl⟩
        have NQB := Lib.hid hnqB
        rw [hnqB]
        clear hnqB
        have hbn := bel1 w106 (.cells #[.int .u32 g, .bool xB, .int .i64 lB, .slice aB nB cB] 48)
        have VBn := MV.new w106 g xB lB aB nB cB
        have BB := Lib.hid (BB.out.trans (hbn.mono BB.out.size))
        have SM := Lib.hid (SM.out.below hbn)
        have SL := Lib.hid (SL.out.below hbn)
        have SSA := Lib.hid (SSA.out.below hbn)
        have QQA := Lib.hid (QQA.out.below hbn)
        have SSB := Lib.hid (SSB.out.below hbn)
        have QQB := Lib.hid (QQB.out.below hbn)
        have TT := Lib.hid (TT.out.below hbn)
        have VM := Lib.hid (VM.out.below hbn VM.out.lt)
        have VA := Lib.hid (VA.out.below hbn VA.out.lt)
        clear hbn
        have VB := Lib.hid VBn
        clear VBn
        obtain ⟨TT0, TT1⟩ := TT.out
        obtain ⟨VM0, VM1, VM2, VM3, -⟩ := VM.out.cells
        obtain ⟨VA0, VA1, VA2, VA3, -⟩ := VA.out.cells
        obtain ⟨VB0, VB1, VB2, VB3, -⟩ := VB.out.cells
        go_wp2_with fail
        generalize w106.alloc (.cells #[.int .u32 g, .bool xB, .int .i64 lB, .slice aB nB cB] 48) = w107 at *
        refine (rHas b ln cb xs x _ HL.out (by omega) SL.out).mono ?_
        rintro e w108 ⟨rfl, hw⟩
        clear TT0 TT1 VM0 VM1 VM2 VM3 VA0 VA1 VA2 VA3 VB0 VB1 VB2 VB3
        subst hw
        rw [MW.out] at FA1 FB1
        obtain ⟨bx, hbx⟩ : ∃ bx, decide (x ∈ xs) = bx := ⟨_, rfl⟩
        rw [hbx] at FA1 ⊢
        have BX := Lib.hid hbx
        clear hbx
        by_cases zA : eA = 0
        · subst zA
          cases mw
          · have FA3 : Hid (wantsP xA sA x = bx) := Lib.hid (by rw [FA1.out rfl]; rfl)
            by_cases zB : eB = 0
            · subst zB
              have FB3 := Lib.hid (FB1.out rfl)
              obtain ⟨TT0, TT1⟩ := TT.out
              obtain ⟨VM0, VM1, VM2, VM3, -⟩ := VM.out.cells
              obtain ⟨VA0, VA1, VA2, VA3, -⟩ := VA.out.cells
              obtain ⟨VB0, VB1, VB2, VB3, -⟩ := VB.out.cells
              go_wp2_with fail
              clear TT0 TT1 VM0 VM1 VM2 VM3 VA0 VA1 VA2 VA3 VB0 VB1 VB2 VB3
              refine wp_region_each3 (adyfyV g x ex left a n c xA lA aA nA cA xB lB aB nB cB 0 0 bx false) (fun W => Below w108.heap.size w108 W) (fun _ A B => Below A.heap.size A B) adyfyD [57, 58, 59, 60, 61, 62, 63, 64, 65, 66, 67, 68, 69, 70, 71, 72, 73, 74, 75, 76, 77, 78, 79, 80, 81, 82, 83] (by kernel_rfl) (by kernel_rfl) (by kernel_rfl) (Below.refl _ w108).drew
                (fun i j oi oj v us A B hoi hoj hij hw hSA hr hv => adyfy_st _ _ _ _ _ _ _ _ _ _ _ _ _ _ _ _ _ _ _ _ _ hr hv) ?hgd
                ⟨?_, ?_, ?_, ?_, ?_, ?_, ?_, ?_, ?_, ?_, ?_, ?_, ?_, ?_, ?_, ?_, ?_, ?_, ?_, ?_, ?_, ?_, ?_, ?_, ?_, ?_, ?_, trivial⟩ ?hend
              case hgd =>
                intro i o g b hoi hog v us w hv
                have hi : i < 27 := (Array.getElem?_eq_some_iff.1 hoi).1
                have hc : i = 0 ∨ i = 1 ∨ i = 2 ∨ i = 3 ∨ i = 4 ∨ i = 5 ∨ i = 6 ∨ i = 7 ∨ i = 8 ∨ i = 9 ∨ i = 10 ∨ i = 11 ∨ i = 12 ∨ i = 13 ∨ i = 14 ∨ i = 15 ∨ i = 16 ∨ i = 17 ∨ i = 18 ∨ i = 19 ∨ i = 20 ∨ i = 21 ∨ i = 22 ∨ i = 23 ∨ i = 24 ∨ i = 25 ∨ i = 26 := by omega
                rcases hc with rfl | rfl | rfl | rfl | rfl | rfl | rfl | rfl | rfl | rfl | rfl | rfl | rfl | rfl | rfl | rfl | rfl | rfl | rfl | rfl | rfl | rfl | rfl | rfl | rfl | rfl | rfl
                · cases hoi; cases hog
                · cases hoi; cases hog
                · cases hoi; cases hog
                · cases hoi; cases hog; exact hv
                · cases hoi; cases hog; exact hv
                · cases hoi; cases hog; exact hv
                · cases hoi; cases hog; exact hv
                · cases hoi; cases hog; exact hv
                · cases hoi; cases hog; exact hv
                · cases hoi; cases hog; exact hv
                · cases hoi; cases hog; exact hv
                · cases hoi; cases hog; exact hv
                · cases hoi; cases hog; exact hv
                · cases hoi; cases hog
                · cases hoi; cases hog
                · cases hoi; cases hog; exact hv
                · cases hoi; cases hog; exact hv
                · cases hoi; cases hog; exact hv
                · cases hoi; cases hog; exact hv
                · cases hoi; cases hog; exact hv
                · cases hoi; cases hog; exact hv
                · cases hoi; cases hog; exact hv
                · cases hoi; cases hog; exact hv
                · cases hoi; cases hog; exact hv
                · cases hoi; cases hog; exact hv
                · cases hoi; cases hog; exact hv
                · cases hoi; cases hog
              case refine_1 =>
                intro a' w9 hS h0 hd
                have e10 : a'.tmps[10]?.getD undef = .int .i64 0 := vev (h0 10 (by kernel_rfl))
                refine Does2.value (.int .i64 0) (w' := w9) ?_ ⟨rfl, hS, Below.refl _ _⟩
                clear hS h0 hd
                go_simp
              case refine_2 =>
                intro a' w9 hS h0 hd
                have e57 : a'.tmps[57]?.getD undef = .int .i64 0 := vev (hd 0 List.mem_cons_self)
                refine Does2.value (.bool true) (w' := w9) ?_ ⟨rfl, hS, Below.refl _ _⟩
                clear hS h0 hd
                go_simp
              case refine_3 =>
                intro a' w9 hS h0 hd
                have e58 : a'.tmps[58]?.getD undef = .bool true := vev (hd 1 List.mem_cons_self)
                refine Does2.value (.bool true) (w' := w9) ?_ ⟨rfl, hS, Below.refl _ _⟩
                clear hS h0 hd
                go_simp
              case refine_4 =>
                intro a' w9 hS h0 hd
                have e8 : a'.tmps[8]?.getD undef = .pointer (some ⟨w104.heap.size, 0, none⟩) := vev (h0 8 (by kernel_rfl))
                obtain ⟨y0, y1, y2, y3, -⟩ := (VA.out.below hS VA.out.lt).cells
                refine Does2.value (.agg #[.int .u32 g, .bool xA, .int .i64 lA, .slice aA nA cA]) (w' := w9) ?_ ⟨rfl, hS, Below.refl _ _⟩
                clear hS h0 hd
                go_simp
              case refine_5 =>
                intro a' w9 hS h0 hd
                have e6 : a'.tmps[6]?.getD undef = .int .u32 x := vev (h0 6 (by kernel_rfl))
                refine Does2.value (.int .u32 x) (w' := w9) ?_ ⟨rfl, hS, Below.refl _ _⟩
                clear hS h0 hd
                go_simp
              case refine_6 =>
                intro a' w9 hS h0 hd
                have e60 : a'.tmps[60]?.getD undef = .agg #[.int .u32 g, .bool xA, .int .i64 lA, .slice aA nA cA] := vev (hd 3 List.mem_cons_self)
                have e61 : a'.tmps[61]?.getD undef = .int .u32 x := vev (hd 4 (List.mem_cons_of_mem _ List.mem_cons_self))
                refine Does2.call 32 #[.agg #[.int .u32 g, .bool xA, .int .i64 lA, .slice aA nA cA], .int .u32 x] (w' := w9) ?_ ((mWants g xA lA aA nA cA sA x w9 NNA.out (by have := HRA.out.2.1; rw [NNA.out] at this; omega) (SSA.out.below hS) HRA.out.inc HRA.out.nn).mono ?_)
                · clear hS h0 hd
                  go_simp
                · rw [FA3.out]
                  rintro e w8 ⟨rfl, hb⟩
                  exact ⟨_, rfl, rfl, hS.trans (hb.mono hS.size), hb⟩
              case refine_7 =>
                intro a' w9 hS h0 hd
                have e4 : a'.tmps[4]?.getD undef = .pointer (some ⟨w.heap.size + 2, 0, none⟩) := vev (h0 4 (by kernel_rfl))
                obtain ⟨y0, y1, y2, y3, -⟩ := (VM.out.below hS VM.out.lt).cells
                refine Does2.value (.agg #[.int .u32 g, .bool ex, .int .i64 left, .slice a n c]) (w' := w9) ?_ ⟨rfl, hS, Below.refl _ _⟩
                clear hS h0 hd
                go_simp
              case refine_8 =>
                intro a' w9 hS h0 hd
                have e6 : a'.tmps[6]?.getD undef = .int .u32 x := vev (h0 6 (by kernel_rfl))
                refine Does2.value (.int .u32 x) (w' := w9) ?_ ⟨rfl, hS, Below.refl _ _⟩
                clear hS h0 hd
                go_simp
              case refine_9 =>
                intro a' w9 hS h0 hd
                have e63 : a'.tmps[63]?.getD undef = .agg #[.int .u32 g, .bool ex, .int .i64 left, .slice a n c] := vev (hd 6 List.mem_cons_self)
                have e64 : a'.tmps[64]?.getD undef = .int .u32 x := vev (hd 7 (List.mem_cons_of_mem _ List.mem_cons_self))
                refine Does2.call 32 #[.agg #[.int .u32 g, .bool ex, .int .i64 left, .slice a n c], .int .u32 x] (w' := w9) ?_ ((mWants g ex left a n c s x w9 HX.out (by omega) (SM.out.below hS) OK.out.inc OK.out.nn).mono ?_)
                · clear hS h0 hd
                  go_simp
                · rw [MW.out]
                  rintro e w8 ⟨rfl, hb⟩
                  exact ⟨_, rfl, rfl, hS.trans (hb.mono hS.size), hb⟩
              case refine_10 =>
                intro a' w9 hS h0 hd
                have e65 : a'.tmps[65]?.getD undef = .bool false := vev (hd 8 List.mem_cons_self)
                refine Does2.value (.bool false) (w' := w9) ?_ ⟨rfl, hS, Below.refl _ _⟩
                clear hS h0 hd
                go_simp
              case refine_11 =>
                intro a' w9 hS h0 hd
                have e14 : a'.tmps[14]?.getD undef = .bool bx := vev (h0 14 (by kernel_rfl))
                refine Does2.value (.bool bx) (w' := w9) ?_ ⟨rfl, hS, Below.refl _ _⟩
                clear hS h0 hd
                go_simp
              case refine_12 =>
                intro a' w9 hS h0 hd
                have e66 : a'.tmps[66]?.getD undef = .bool false := vev (hd 9 List.mem_cons_self)
                have e67 : a'.tmps[67]?.getD undef = .bool bx := vev (hd 10 (List.mem_cons_of_mem _ List.mem_cons_self))
                refine Does2.value (.bool bx) (w' := w9) ?_ ⟨rfl, hS, Below.refl _ _⟩
                clear hS h0 hd
                go_simp
              case refine_13 =>
                intro a' w9 hS h0 hd
                have e62 : a'.tmps[62]?.getD undef = .bool bx := vev (hd 5 List.mem_cons_self)
                have e68 : a'.tmps[68]?.getD undef = .bool bx := vev (hd 11 (List.mem_cons_of_mem _ List.mem_cons_self))
                refine Does2.value (.bool false) (w' := w9) ?_ ⟨rfl, hS, Below.refl _ _⟩
                clear hS h0 hd
                go_simp
              case refine_14 =>
                intro a' w9 hS h0 hd
                have e59 : a'.tmps[59]?.getD undef = .bool true := vev (hd 2 List.mem_cons_self)
                have e69 : a'.tmps[69]?.getD undef = .bool false := vev (hd 12 (List.mem_cons_of_mem _ List.mem_cons_self))
                refine Does2.value (.bool false) (w' := w9) ?_ ⟨rfl, hS, Below.refl _ _⟩
                clear hS h0 hd
                go_simp
              case refine_15 =>
                intro a' w9 hS h0 hd
                have e70 : a'.tmps[70]?.getD undef = .bool false := vev (hd 13 List.mem_cons_self)
                refine Does2.value (.bool false) (w' := w9) ?_ ⟨rfl, hS, Below.refl _ _⟩
                clear hS h0 hd
                go_simp
              case refine_16 =>
                intro a' w9 hS h0 hd
                have e13 : a'.tmps[13]?.getD undef = .int .i64 0 := vev (h0 13 (by kernel_rfl))
                refine Does2.value (.int .i64 0) (w' := w9) ?_ ⟨rfl, hS, Below.refl _ _⟩
                clear hS h0 hd
                go_simp
              case refine_17 =>
                intro a' w9 hS h0 hd
                have e72 : a'.tmps[72]?.getD undef = .int .i64 0 := vev (hd 15 List.mem_cons_self)
                refine Does2.value (.bool true) (w' := w9) ?_ ⟨rfl, hS, Below.refl _ _⟩
                clear hS h0 hd
                go_simp
              case refine_18 =>
                intro a' w9 hS h0 hd
                have e73 : a'.tmps[73]?.getD undef = .bool true := vev (hd 16 List.mem_cons_self)
                refine Does2.value (.bool true) (w' := w9) ?_ ⟨rfl, hS, Below.refl _ _⟩
                clear hS h0 hd
                go_simp
              case refine_19 =>
                intro a' w9 hS h0 hd
                have e11 : a'.tmps[11]?.getD undef = .pointer (some ⟨w106.heap.size, 0, none⟩) := vev (h0 11 (by kernel_rfl))
                obtain ⟨y0, y1, y2, y3, -⟩ := (VB.out.below hS VB.out.lt).cells
                refine Does2.value (.agg #[.int .u32 g, .bool xB, .int .i64 lB, .slice aB nB cB]) (w' := w9) ?_ ⟨rfl, hS, Below.refl _ _⟩
                clear hS h0 hd
                go_simp
              case refine_20 =>
                intro a' w9 hS h0 hd
                have e6 : a'.tmps[6]?.getD undef = .int .u32 x := vev (h0 6 (by kernel_rfl))
                refine Does2.value (.int .u32 x) (w' := w9) ?_ ⟨rfl, hS, Below.refl _ _⟩
                clear hS h0 hd
                go_simp
              case refine_21 =>
                intro a' w9 hS h0 hd
                have e75 : a'.tmps[75]?.getD undef = .agg #[.int .u32 g, .bool xB, .int .i64 lB, .slice aB nB cB] := vev (hd 18 List.mem_cons_self)
                have e76 : a'.tmps[76]?.getD undef = .int .u32 x := vev (hd 19 (List.mem_cons_of_mem _ List.mem_cons_self))
                refine Does2.call 32 #[.agg #[.int .u32 g, .bool xB, .int .i64 lB, .slice aB nB cB], .int .u32 x] (w' := w9) ?_ ((mWants g xB lB aB nB cB sB x w9 NNB.out (by have := HRB.out.2.1; rw [NNB.out] at this; omega) (SSB.out.below hS) HRB.out.inc HRB.out.nn).mono ?_)
                · clear hS h0 hd
                  go_simp
                · rw [FB3.out]
                  rintro e w8 ⟨rfl, hb⟩
                  exact ⟨_, rfl, rfl, hS.trans (hb.mono hS.size), hb⟩
              case refine_22 =>
                intro a' w9 hS h0 hd
                have e4 : a'.tmps[4]?.getD undef = .pointer (some ⟨w.heap.size + 2, 0, none⟩) := vev (h0 4 (by kernel_rfl))
                obtain ⟨y0, y1, y2, y3, -⟩ := (VM.out.below hS VM.out.lt).cells
                refine Does2.value (.agg #[.int .u32 g, .bool ex, .int .i64 left, .slice a n c]) (w' := w9) ?_ ⟨rfl, hS, Below.refl _ _⟩
                clear hS h0 hd
                go_simp
              case refine_23 =>
                intro a' w9 hS h0 hd
                have e6 : a'.tmps[6]?.getD undef = .int .u32 x := vev (h0 6 (by kernel_rfl))
                refine Does2.value (.int .u32 x) (w' := w9) ?_ ⟨rfl, hS, Below.refl _ _⟩
                clear hS h0 hd
                go_simp
              case refine_24 =>
                intro a' w9 hS h0 hd
                have e78 : a'.tmps[78]?.getD undef = .agg #[.int .u32 g, .bool ex, .int .i64 left, .slice a n c] := vev (hd 21 List.mem_cons_self)
                have e79 : a'.tmps[79]?.getD undef = .int .u32 x := vev (hd 22 (List.mem_cons_of_mem _ List.mem_cons_self))
                refine Does2.call 32 #[.agg #[.int .u32 g, .bool ex, .int .i64 left, .slice a n c], .int .u32 x] (w' := w9) ?_ ((mWants g ex left a n c s x w9 HX.out (by omega) (SM.out.below hS) OK.out.inc OK.out.nn).mono ?_)
                · clear hS h0 hd
                  go_simp
                · rw [MW.out]
                  rintro e w8 ⟨rfl, hb⟩
                  exact ⟨_, rfl, rfl, hS.trans (hb.mono hS.size), hb⟩
              case refine_25 =>
                intro a' w9 hS h0 hd
                have e77 : a'.tmps[77]?.getD undef = .bool false := vev (hd 20 List.mem_cons_self)
                have e80 : a'.tmps[80]?.getD undef = .bool false := vev (hd 23 (List.mem_cons_of_mem _ List.mem_cons_self))
                refine Does2.value (.bool false) (w' := w9) ?_ ⟨rfl, hS, Below.refl _ _⟩
                clear hS h0 hd
                go_simp
              case refine_26 =>
                intro a' w9 hS h0 hd
                have e74 : a'.tmps[74]?.getD undef = .bool true := vev (hd 17 List.mem_cons_self)
                have e81 : a'.tmps[81]?.getD undef = .bool false := vev (hd 24 (List.mem_cons_of_mem _ List.mem_cons_self))
                refine Does2.value (.bool false) (w' := w9) ?_ ⟨rfl, hS, Below.refl _ _⟩
                clear hS h0 hd
                go_simp
              case refine_27 =>
                intro a' w9 hS h0 hd
                have e71 : a'.tmps[71]?.getD undef = .bool false := vev (hd 14 List.mem_cons_self)
                have e82 : a'.tmps[82]?.getD undef = .bool false := vev (hd 25 (List.mem_cons_of_mem _ List.mem_cons_self))
                refine Does2.value (.bool false) (w' := w9) ?_ ⟨rfl, hS, Below.refl _ _⟩
                clear hS h0 hd
                go_simp
              case hend =>
                intro f wE hS hv
                have v83 := hv 26 (by decide)
                replace v83 : f 83 = .bool false := v83
                simp only [putAll, Act.put, List.setIfInBounds_toArray, List.set_cons_zero, List.set_cons_succ, v83]
                have BB := Lib.hid (BB.out.trans (hS.mono BB.out.size))
                have SM := Lib.hid (SM.out.below hS)
                have SL := Lib.hid (SL.out.below hS)
                have SSA := Lib.hid (SSA.out.below hS)
                have QQA := Lib.hid (QQA.out.below hS)
                have SSB := Lib.hid (SSB.out.below hS)
                have QQB := Lib.hid (QQB.out.below hS)
                have TT := Lib.hid (TT.out.below hS)
                have VM := Lib.hid (VM.out.below hS VM.out.lt)
                have VA := Lib.hid (VA.out.below hS VA.out.lt)
                have VB := Lib.hid (VB.out.below hS VB.out.lt)
                clear hS hv v83
                cases bx
                · obtain ⟨TT0, TT1⟩ := TT.out
                  obtain ⟨VM0, VM1, VM2, VM3, -⟩ := VM.out.cells
                  obtain ⟨VA0, VA1, VA2, VA3, -⟩ := VA.out.cells
                  obtain ⟨VB0, VB1, VB2, VB3, -⟩ := VB.out.cells
                  go_wp2_with fail
                  go_ret
                  exact ⟨rfl, BB.out⟩
                · obtain ⟨TT0, TT1⟩ := TT.out
                  obtain ⟨VM0, VM1, VM2, VM3, -⟩ := VM.out.cells
                  obtain ⟨VA0, VA1, VA2, VA3, -⟩ := VA.out.cells
                  obtain ⟨VB0, VB1, VB2, VB3, -⟩ := VB.out.cells
                  go_wp2_with fail
                  refine (mTick g xB lB aB nB cB sB la _ NNB.out (by have := HRB.out.2.1; rw [NNB.out] at this; omega) SSB.out (fun y hy => by have := (HRB.out.lb.weak (lo_nn _)) y hy; omega) (by have := HRB.out.left; omega) (by have := TB.out; omega)).mono ?_
                  rintro e w109 ⟨⟨aD, cD, rfl, hD⟩, hb⟩
                  clear TT0 TT1 VM0 VM1 VM2 VM3 VA0 VA1 VA2 VA3 VB0 VB1 VB2 VB3
                  have BB := Lib.hid (BB.out.trans (hb.mono BB.out.size))
                  have SM := Lib.hid (SM.out.below hb)
                  have SL := Lib.hid (SL.out.below hb)
                  have SSA := Lib.hid (SSA.out.below hb)
                  have QQA := Lib.hid (QQA.out.below hb)
                  have SSB := Lib.hid (SSB.out.below hb)
                  have QQB := Lib.hid (QQB.out.below hb)
                  have TT := Lib.hid (TT.out.below hb)
                  have VM := Lib.hid (VM.out.below hb VM.out.lt)
                  have VA := Lib.hid (VA.out.below hb VA.out.lt)
                  have VB := Lib.hid (VB.out.below hb VB.out.lt)
                  clear hb
                  have hmx : max la 0 = la := by have := TB.out; omega
                  rw [hmx] at hD ⊢
                  have HRD := Lib.hid (tick_ok HRB.out (show 0 ≤ la by have := TB.out; omega))
                  have SSD := Lib.hid hD.1
                  clear hD hmx
                  have FD1 := Lib.hid (FB2.out (by trivial) (of_decide_eq_true BX.out))
                  obtain ⟨TT0, TT1⟩ := TT.out
                  obtain ⟨VM0, VM1, VM2, VM3, -⟩ := VM.out.cells
                  obtain ⟨VA0, VA1, VA2, VA3, -⟩ := VA.out.cells
                  obtain ⟨VB0, VB1, VB2, VB3, -⟩ := VB.out.cells
                  go_wp2_with fail
                  refine (mWants g _ _ aD _ cD _ x _ rfl (by have := HRD.out.2.1; omega) SSD.out HRD.out.inc HRD.out.nn).mono ?_
                  rintro e w110 ⟨rfl, hb⟩
                  clear TT0 TT1 VM0 VM1 VM2 VM3 VA0 VA1 VA2 VA3 VB0 VB1 VB2 VB3
                  have BB := Lib.hid (BB.out.trans (hb.mono BB.out.size))
                  have SM := Lib.hid (SM.out.below hb)
                  have SL := Lib.hid (SL.out.below hb)
                  have SSA := Lib.hid (SSA.out.below hb)
                  have QQA := Lib.hid (QQA.out.below hb)
                  have SSB := Lib.hid (SSB.out.below hb)
                  have QQB := Lib.hid (QQB.out.below hb)
                  have SSD := Lib.hid (SSD.out.below hb)
                  have TT := Lib.hid (TT.out.below hb)
                  have VM := Lib.hid (VM.out.below hb VM.out.lt)
                  have VA := Lib.hid (VA.out.below hb VA.out.lt)
                  have VB := Lib.hid (VB.out.below hb VB.out.lt)
                  clear hb
                  rw [FD1.out]
                  obtain ⟨TT0, TT1⟩ := TT.out
                  obtain ⟨VM0, VM1, VM2, VM3, -⟩ := VM.out.cells
                  obtain ⟨VA0, VA1, VA2, VA3, -⟩ := VA.out.cells
                  obtain ⟨VB0, VB1, VB2, VB3, -⟩ := VB.out.cells
                  go_wp2_with fail
                  go_ret
                  exact ⟨rfl, BB.out⟩
            · have zB' : (eB == 0) = false := by simpa using zB
              have zB2 : (eB != 0) = true := by simpa using zB
              clear zB
              obtain ⟨TT0, TT1⟩ := TT.out
              obtain ⟨VM0, VM1, VM2, VM3, -⟩ := VM.out.cells
              obtain ⟨VA0, VA1, VA2, VA3, -⟩ := VA.out.cells
              obtain ⟨VB0, VB1, VB2, VB3, -⟩ := VB.out.cells
              go_wp2_with fail
              clear TT0 TT1 VM0 VM1 VM2 VM3 VA0 VA1 VA2 VA3 VB0 VB1 VB2 VB3
              refine wp_region_each4 (adyfnV g x ex left a n c xA lA aA nA cA xB lB aB nB cB 0 eB bx false) (fun W => Below w108.heap.size w108 W) (fun _ A B => Below A.heap.size A B) adyfnD adyfnN [57, 58, 59, 60, 61, 62, 63, 64, 65, 66, 67, 68, 69, 70, 71, 72, 73, 74, 75, 76, 77, 78, 79, 80, 81, 82, 83] (by kernel_rfl) (by kernel_rfl) (by kernel_rfl) (Below.refl _ w108).drew
                (fun i j oi oj v us A B hoi hoj hij hw hSA hr hv => adyfn_st _ _ _ _ _ _ _ _ _ _ _ _ _ _ _ _ _ _ _ _ _ hr hv) ?hgd ?hng ?hsk
                ⟨?_, ?_, ?_, ?_, ?_, ?_, ?_, ?_, ?_, ?_, ?_, ?_, ?_, ?_, ?_, ?_, ?_, ?_, ?_, ?_, ?_, ?_, ?_, ?_, ?_, ?_, ?_, trivial⟩ ?hend
              case hgd =>
                intro i o g b hoi hog v us w hv
                have hi : i < 27 := (Array.getElem?_eq_some_iff.1 hoi).1
                have hc : i = 0 ∨ i = 1 ∨ i = 2 ∨ i = 3 ∨ i = 4 ∨ i = 5 ∨ i = 6 ∨ i = 7 ∨ i = 8 ∨ i = 9 ∨ i = 10 ∨ i = 11 ∨ i = 12 ∨ i = 13 ∨ i = 14 ∨ i = 15 ∨ i = 16 ∨ i = 17 ∨ i = 18 ∨ i = 19 ∨ i = 20 ∨ i = 21 ∨ i = 22 ∨ i = 23 ∨ i = 24 ∨ i = 25 ∨ i = 26 := by omega
                rcases hc with rfl | rfl | rfl | rfl | rfl | rfl | rfl | rfl | rfl | rfl | rfl | rfl | rfl | rfl | rfl | rfl | rfl | rfl | rfl | rfl | rfl | rfl | rfl | rfl | rfl | rfl | rfl
                · cases hoi; cases hog
                · cases hoi; cases hog
                · cases hoi; cases hog
                · cases hoi; cases hog; exact hv
                · cases hoi; cases hog; exact hv
                · cases hoi; cases hog; exact hv
                · cases hoi; cases hog; exact hv
                · cases hoi; cases hog; exact hv
                · cases hoi; cases hog; exact hv
                · cases hoi; cases hog; exact hv
                · cases hoi; cases hog; exact hv
                · cases hoi; cases hog; exact hv
                · cases hoi; cases hog; exact hv
                · cases hoi; cases hog
                · cases hoi; cases hog
                · cases hoi; cases hog; exact hv
                · cases hoi; cases hog; exact hv
                · cases hoi; cases hog; exact hv
                · cases hoi; cases hog
                  show v ≠ _
                  rw [show v = _ from hv]
                  intro e; cases e
                · cases hoi; cases hog
                  show v ≠ _
                  rw [show v = _ from hv]
                  intro e; cases e
                · cases hoi; cases hog
                  show v ≠ _
                  rw [show v = _ from hv]
                  intro e; cases e
                · cases hoi; cases hog
                  show v ≠ _
                  rw [show v = _ from hv]
                  intro e; cases e
                · cases hoi; cases hog
                  show v ≠ _
                  rw [show v = _ from hv]
                  intro e; cases e
                · cases hoi; cases hog
                  show v ≠ _
                  rw [show v = _ from hv]
                  intro e; cases e
                · cases hoi; cases hog
                  show v ≠ _
                  rw [show v = _ from hv]
                  intro e; cases e
                · cases hoi; cases hog; exact hv
                · cases hoi; cases hog
              case hng =>
                intro i o hoi hr
                have hi : i < 27 := (Array.getElem?_eq_some_iff.1 hoi).1
                have hc : i = 0 ∨ i = 1 ∨ i = 2 ∨ i = 3 ∨ i = 4 ∨ i = 5 ∨ i = 6 ∨ i = 7 ∨ i = 8 ∨ i = 9 ∨ i = 10 ∨ i = 11 ∨ i = 12 ∨ i = 13 ∨ i = 14 ∨ i = 15 ∨ i = 16 ∨ i = 17 ∨ i = 18 ∨ i = 19 ∨ i = 20 ∨ i = 21 ∨ i = 22 ∨ i = 23 ∨ i = 24 ∨ i = 25 ∨ i = 26 := by omega
                rcases hc with rfl | rfl | rfl | rfl | rfl | rfl | rfl | rfl | rfl | rfl | rfl | rfl | rfl | rfl | rfl | rfl | rfl | rfl | rfl | rfl | rfl | rfl | rfl | rfl | rfl | rfl | rfl
                · exact absurd hr (by decide)
                · exact absurd hr (by decide)
                · exact absurd hr (by decide)
                · exact absurd hr (by decide)
                · exact absurd hr (by decide)
                · exact absurd hr (by decide)
                · exact absurd hr (by decide)
                · exact absurd hr (by decide)
                · exact absurd hr (by decide)
                · exact absurd hr (by decide)
                · exact absurd hr (by decide)
                · exact absurd hr (by decide)
                · exact absurd hr (by decide)
                · exact absurd hr (by decide)
                · exact absurd hr (by decide)
                · exact absurd hr (by decide)
                · exact absurd hr (by decide)
                · exact absurd hr (by decide)
                · cases hoi; exact ⟨_, _, rfl⟩
                · cases hoi; exact ⟨_, _, rfl⟩
                · cases hoi; exact ⟨_, _, rfl⟩
                · cases hoi; exact ⟨_, _, rfl⟩
                · cases hoi; exact ⟨_, _, rfl⟩
                · cases hoi; exact ⟨_, _, rfl⟩
                · cases hoi; exact ⟨_, _, rfl⟩
                · exact absurd hr (by decide)
                · exact absurd hr (by decide)
              case hsk =>
                intro i us w hr hS
                by_cases hi : i < 27
                · have hc : i = 0 ∨ i = 1 ∨ i = 2 ∨ i = 3 ∨ i = 4 ∨ i = 5 ∨ i = 6 ∨ i = 7 ∨ i = 8 ∨ i = 9 ∨ i = 10 ∨ i = 11 ∨ i = 12 ∨ i = 13 ∨ i = 14 ∨ i = 15 ∨ i = 16 ∨ i = 17 ∨ i = 18 ∨ i = 19 ∨ i = 20 ∨ i = 21 ∨ i = 22 ∨ i = 23 ∨ i = 24 ∨ i = 25 ∨ i = 26 := by omega
                  rcases hc with rfl | rfl | rfl | rfl | rfl | rfl | rfl | rfl | rfl | rfl | rfl | rfl | rfl | rfl | rfl | rfl | rfl | rfl | rfl | rfl | rfl | rfl | rfl | rfl | rfl | rfl | rfl
                  · exact absurd hr (by decide)
                  · exact absurd hr (by decide)
                  · exact absurd hr (by decide)
                  · exact absurd hr (by decide)
                  · exact absurd hr (by decide)
                  · exact absurd hr (by decide)
                  · exact absurd hr (by decide)
                  · exact absurd hr (by decide)
                  · exact absurd hr (by decide)
                  · exact absurd hr (by decide)
                  · exact absurd hr (by decide)
                  · exact absurd hr (by decide)
                  · exact absurd hr (by decide)
                  · exact absurd hr (by decide)
                  · exact absurd hr (by decide)
                  · exact absurd hr (by decide)
                  · exact absurd hr (by decide)
                  · exact absurd hr (by decide)
                  · exact rfl
                  · exact rfl
                  · exact rfl
                  · exact rfl
                  · exact rfl
                  · exact rfl
                  · exact rfl
                  · exact absurd hr (by decide)
                  · exact absurd hr (by decide)
                · exact absurd hr (by rw [show adyfnN i = true from by unfold adyfnN; simp; omega]; decide)
              case refine_1 =>
                intro hrun a' w9 hS h0 hd
                have e10 : a'.tmps[10]?.getD undef = .int .i64 0 := vev (h0 10 (by kernel_rfl))
                refine Does2.value (.int .i64 0) (w' := w9) ?_ ⟨rfl, hS, Below.refl _ _⟩
                clear hS h0 hd hrun
                go_simp
              case refine_2 =>
                intro hrun a' w9 hS h0 hd
                have e57 : a'.tmps[57]?.getD undef = .int .i64 0 := vev (hd 0 List.mem_cons_self)
                refine Does2.value (.bool true) (w' := w9) ?_ ⟨rfl, hS, Below.refl _ _⟩
                clear hS h0 hd hrun
                go_simp
              case refine_3 =>
                intro hrun a' w9 hS h0 hd
                have e58 : a'.tmps[58]?.getD undef = .bool true := vev (hd 1 List.mem_cons_self)
                refine Does2.value (.bool true) (w' := w9) ?_ ⟨rfl, hS, Below.refl _ _⟩
                clear hS h0 hd hrun
                go_simp
              case refine_4 =>
                intro hrun a' w9 hS h0 hd
                have e8 : a'.tmps[8]?.getD undef = .pointer (some ⟨w104.heap.size, 0, none⟩) := vev (h0 8 (by kernel_rfl))
                obtain ⟨y0, y1, y2, y3, -⟩ := (VA.out.below hS VA.out.lt).cells
                refine Does2.value (.agg #[.int .u32 g, .bool xA, .int .i64 lA, .slice aA nA cA]) (w' := w9) ?_ ⟨rfl, hS, Below.refl _ _⟩
                clear hS h0 hd hrun
                go_simp
              case refine_5 =>
                intro hrun a' w9 hS h0 hd
                have e6 : a'.tmps[6]?.getD undef = .int .u32 x := vev (h0 6 (by kernel_rfl))
                refine Does2.value (.int .u32 x) (w' := w9) ?_ ⟨rfl, hS, Below.refl _ _⟩
                clear hS h0 hd hrun
                go_simp
              case refine_6 =>
                intro hrun a' w9 hS h0 hd
                have e60 : a'.tmps[60]?.getD undef = .agg #[.int .u32 g, .bool xA, .int .i64 lA, .slice aA nA cA] := vev (hd 3 List.mem_cons_self)
                have e61 : a'.tmps[61]?.getD undef = .int .u32 x := vev (hd 4 (List.mem_cons_of_mem _ List.mem_cons_self))
                refine Does2.call 32 #[.agg #[.int .u32 g, .bool xA, .int .i64 lA, .slice aA nA cA], .int .u32 x] (w' := w9) ?_ ((mWants g xA lA aA nA cA sA x w9 NNA.out (by have := HRA.out.2.1; rw [NNA.out] at this; omega) (SSA.out.below hS) HRA.out.inc HRA.out.nn).mono ?_)
                · clear hS h0 hd
                  go_simp
                · rw [FA3.out]
                  rintro e w8 ⟨rfl, hb⟩
                  exact ⟨_, rfl, rfl, hS.trans (hb.mono hS.size), hb⟩
              case refine_7 =>
                intro hrun a' w9 hS h0 hd
                have e4 : a'.tmps[4]?.getD undef = .pointer (some ⟨w.heap.size + 2, 0, none⟩) := vev (h0 4 (by kernel_rfl))
                obtain ⟨y0, y1, y2, y3, -⟩ := (VM.out.below hS VM.out.lt).cells
                refine Does2.value (.agg #[.int .u32 g, .bool ex, .int .i64 left, .slice a n c]) (w' := w9) ?_ ⟨rfl, hS, Below.refl _ _⟩
                clear hS h0 hd hrun
                go_simp
              case refine_8 =>
                intro hrun a' w9 hS h0 hd
                have e6 : a'.tmps[6]?.getD undef = .int .u32 x := vev (h0 6 (by kernel_rfl))
                refine Does2.value (.int .u32 x) (w' := w9) ?_ ⟨rfl, hS, Below.refl _ _⟩
                clear hS h0 hd hrun
                go_simp
              case refine_9 =>
                intro hrun a' w9 hS h0 hd
                have e63 : a'.tmps[63]?.getD undef = .agg #[.int .u32 g, .bool ex, .int .i64 left, .slice a n c] := vev (hd 6 List.mem_cons_self)
                have e64 : a'.tmps[64]?.getD undef = .int .u32 x := vev (hd 7 (List.mem_cons_of_mem _ List.mem_cons_self))
                refine Does2.call 32 #[.agg #[.int .u32 g, .bool ex, .int .i64 left, .slice a n c], .int .u32 x] (w' := w9) ?_ ((mWants g ex left a n c s x w9 HX.out (by omega) (SM.out.below hS) OK.out.inc OK.out.nn).mono ?_)
                · clear hS h0 hd
                  go_simp
                · rw [MW.out]
                  rintro e w8 ⟨rfl, hb⟩
                  exact ⟨_, rfl, rfl, hS.trans (hb.mono hS.size), hb⟩
              case refine_10 =>
                intro hrun a' w9 hS h0 hd
                have e65 : a'.tmps[65]?.getD undef = .bool false := vev (hd 8 List.mem_cons_self)
                refine Does2.value (.bool false) (w' := w9) ?_ ⟨rfl, hS, Below.refl _ _⟩
                clear hS h0 hd hrun
                go_simp
              case refine_11 =>
                intro hrun a' w9 hS h0 hd
                have e14 : a'.tmps[14]?.getD undef = .bool bx := vev (h0 14 (by kernel_rfl))
                refine Does2.value (.bool bx) (w' := w9) ?_ ⟨rfl, hS, Below.refl _ _⟩
                clear hS h0 hd hrun
                go_simp
              case refine_12 =>
                intro hrun a' w9 hS h0 hd
                have e66 : a'.tmps[66]?.getD undef = .bool false := vev (hd 9 List.mem_cons_self)
                have e67 : a'.tmps[67]?.getD undef = .bool bx := vev (hd 10 (List.mem_cons_of_mem _ List.mem_cons_self))
                refine Does2.value (.bool bx) (w' := w9) ?_ ⟨rfl, hS, Below.refl _ _⟩
                clear hS h0 hd hrun
                go_simp
              case refine_13 =>
                intro hrun a' w9 hS h0 hd
                have e62 : a'.tmps[62]?.getD undef = .bool bx := vev (hd 5 List.mem_cons_self)
                have e68 : a'.tmps[68]?.getD undef = .bool bx := vev (hd 11 (List.mem_cons_of_mem _ List.mem_cons_self))
                refine Does2.value (.bool false) (w' := w9) ?_ ⟨rfl, hS, Below.refl _ _⟩
                clear hS h0 hd hrun
                go_simp
              case refine_14 =>
                intro hrun a' w9 hS h0 hd
                have e59 : a'.tmps[59]?.getD undef = .bool true := vev (hd 2 List.mem_cons_self)
                have e69 : a'.tmps[69]?.getD undef = .bool false := vev (hd 12 (List.mem_cons_of_mem _ List.mem_cons_self))
                refine Does2.value (.bool false) (w' := w9) ?_ ⟨rfl, hS, Below.refl _ _⟩
                clear hS h0 hd hrun
                go_simp
              case refine_15 =>
                intro hrun a' w9 hS h0 hd
                have e70 : a'.tmps[70]?.getD undef = .bool false := vev (hd 13 List.mem_cons_self)
                refine Does2.value (.bool false) (w' := w9) ?_ ⟨rfl, hS, Below.refl _ _⟩
                clear hS h0 hd hrun
                go_simp
              case refine_16 =>
                intro hrun a' w9 hS h0 hd
                have e13 : a'.tmps[13]?.getD undef = .int .i64 eB := vev (h0 13 (by kernel_rfl))
                refine Does2.value (.int .i64 eB) (w' := w9) ?_ ⟨rfl, hS, Below.refl _ _⟩
                clear hS h0 hd hrun
                go_simp
              case refine_17 =>
                intro hrun a' w9 hS h0 hd
                have e72 : a'.tmps[72]?.getD undef = .int .i64 eB := vev (hd 15 List.mem_cons_self)
                refine Does2.value (.bool false) (w' := w9) ?_ ⟨rfl, hS, Below.refl _ _⟩
                clear hS h0 hd hrun
                go_simp
              case refine_18 =>
                intro hrun a' w9 hS h0 hd
                have e73 : a'.tmps[73]?.getD undef = .bool false := vev (hd 16 List.mem_cons_self)
                refine Does2.value (.bool false) (w' := w9) ?_ ⟨rfl, hS, Below.refl _ _⟩
                clear hS h0 hd hrun
                go_simp
              case refine_19 =>
                intro hrun a' w9 hS h0 hd
                exact absurd hrun (by decide)
              case refine_20 =>
                intro hrun a' w9 hS h0 hd
                exact absurd hrun (by decide)
              case refine_21 =>
                intro hrun a' w9 hS h0 hd
                exact absurd hrun (by decide)
              case refine_22 =>
                intro hrun a' w9 hS h0 hd
                exact absurd hrun (by decide)
              case refine_23 =>
                intro hrun a' w9 hS h0 hd
                exact absurd hrun (by decide)
              case refine_24 =>
                intro hrun a' w9 hS h0 hd
                exact absurd hrun (by decide)
              case refine_25 =>
                intro hrun a' w9 hS h0 hd
                exact absurd hrun (by decide)
              case refine_26 =>
                intro hrun a' w9 hS h0 hd
                have e74 : a'.tmps[74]?.getD undef = .bool false := vev (hd 17 List.mem_cons_self)
                have e81 : a'.tmps[81]?.getD undef = undef := vev (hd 24 (List.mem_cons_of_mem _ List.mem_cons_self))
                refine Does2.value (.bool false) (w' := w9) ?_ ⟨rfl, hS, Below.refl _ _⟩
                clear hS h0 hd hrun
                go_simp
              case refine_27 =>
                intro hrun a' w9 hS h0 hd
                have e71 : a'.tmps[71]?.getD undef = .bool false := vev (hd 14 List.mem_cons_self)
                have e82 : a'.tmps[82]?.getD undef = .bool false := vev (hd 25 (List.mem_cons_of_mem _ List.mem_cons_self))
                refine Does2.value (.bool false) (w' := w9) ?_ ⟨rfl, hS, Below.refl _ _⟩
                clear hS h0 hd hrun
                go_simp
              case hend =>
                intro f wE hS hv
                have v83 := hv 26 (by decide)
                replace v83 : f 83 = .bool false := v83
                simp only [putAll, Act.put, List.setIfInBounds_toArray, List.set_cons_zero, List.set_cons_succ, v83]
                have BB := Lib.hid (BB.out.trans (hS.mono BB.out.size))
                have SM := Lib.hid (SM.out.below hS)
                have SL := Lib.hid (SL.out.below hS)
                have SSA := Lib.hid (SSA.out.below hS)
                have QQA := Lib.hid (QQA.out.below hS)
                have SSB := Lib.hid (SSB.out.below hS)
                have QQB := Lib.hid (QQB.out.below hS)
                have TT := Lib.hid (TT.out.below hS)
                have VM := Lib.hid (VM.out.below hS VM.out.lt)
                have VA := Lib.hid (VA.out.below hS VA.out.lt)
                have VB := Lib.hid (VB.out.below hS VB.out.lt)
                clear hS hv v83
                obtain ⟨TT0, TT1⟩ := TT.out
                obtain ⟨VM0, VM1, VM2, VM3, -⟩ := VM.out.cells
                obtain ⟨VA0, VA1, VA2, VA3, -⟩ := VA.out.cells
                obtain ⟨VB0, VB1, VB2, VB3, -⟩ := VB.out.cells
                go_wp2_with fail
                go_ret
                exact ⟨rfl, BB.out⟩
          · have FA3 : Hid (wantsP xA sA x = true) := Lib.hid (by rw [FA1.out rfl]; rfl)
            by_cases zB : eB = 0
            · subst zB
              have FB3 := Lib.hid (FB1.out rfl)
              obtain ⟨TT0, TT1⟩ := TT.out
              obtain ⟨VM0, VM1, VM2, VM3, -⟩ := VM.out.cells
              obtain ⟨VA0, VA1, VA2, VA3, -⟩ := VA.out.cells
              obtain ⟨VB0, VB1, VB2, VB3, -⟩ := VB.out.cells
              go_wp2_with fail
              clear TT0 TT1 VM0 VM1 VM2 VM3 VA0 VA1 VA2 VA3 VB0 VB1 VB2 VB3
              refine wp_region_each4 (adytyV g x ex left a n c xA lA aA nA cA xB lB aB nB cB 0 0 bx true) (fun W => Below w108.heap.size w108 W) (fun _ A B => Below A.heap.size A B) adytyD adytyN [57, 58, 59, 60, 61, 62, 63, 64, 65, 66, 67, 68, 69, 70, 71, 72, 73, 74, 75, 76, 77, 78, 79, 80, 81, 82, 83] (by kernel_rfl) (by kernel_rfl) (by kernel_rfl) (Below.refl _ w108).drew
                (fun i j oi oj v us A B hoi hoj hij hw hSA hr hv => adyty_st _ _ _ _ _ _ _ _ _ _ _ _ _ _ _ _ _ _ _ _ _ hr hv) ?hgd ?hng ?hsk
                ⟨?_, ?_, ?_, ?_, ?_, ?_, ?_, ?_, ?_, ?_, ?_, ?_, ?_, ?_, ?_, ?_, ?_, ?_, ?_, ?_, ?_, ?_, ?_, ?_, ?_, ?_, ?_, trivial⟩ ?hend
              case hgd =>
                intro i o g b hoi hog v us w hv
                have hi : i < 27 := (Array.getElem?_eq_some_iff.1 hoi).1
                have hc : i = 0 ∨ i = 1 ∨ i = 2 ∨ i = 3 ∨ i = 4 ∨ i = 5 ∨ i = 6 ∨ i = 7 ∨ i = 8 ∨ i = 9 ∨ i = 10 ∨ i = 11 ∨ i = 12 ∨ i = 13 ∨ i = 14 ∨ i = 15 ∨ i = 16 ∨ i = 17 ∨ i = 18 ∨ i = 19 ∨ i = 20 ∨ i = 21 ∨ i = 22 ∨ i = 23 ∨ i = 24 ∨ i = 25 ∨ i = 26 := by omega
                rcases hc with rfl | rfl | rfl | rfl | rfl | rfl | rfl | rfl | rfl | rfl | rfl | rfl | rfl | rfl | rfl | rfl | rfl | rfl | rfl | rfl | rfl | rfl | rfl | rfl | rfl | rfl | rfl
                · cases hoi; cases hog
                · cases hoi; cases hog
                · cases hoi; cases hog
                · cases hoi; cases hog; exact hv
                · cases hoi; cases hog; exact hv
                · cases hoi; cases hog; exact hv
                · cases hoi; cases hog; exact hv
                · cases hoi; cases hog; exact hv
                · cases hoi; cases hog; exact hv
                · cases hoi; cases hog; exact hv
                · cases hoi; cases hog
                  show v ≠ _
                  rw [show v = _ from hv]
                  intro e; cases e
                · cases hoi; cases hog; exact hv
                · cases hoi; cases hog; exact hv
                · cases hoi; cases hog
                · cases hoi; cases hog
                · cases hoi; cases hog; exact hv
                · cases hoi; cases hog; exact hv
                · cases hoi; cases hog; exact hv
                · cases hoi; cases hog; exact hv
                · cases hoi; cases hog; exact hv
                · cases hoi; cases hog; exact hv
                · cases hoi; cases hog; exact hv
                · cases hoi; cases hog; exact hv
                · cases hoi; cases hog; exact hv
                · cases hoi; cases hog; exact hv
                · cases hoi; cases hog; exact hv
                · cases hoi; cases hog
              case hng =>
                intro i o hoi hr
                have hi : i < 27 := (Array.getElem?_eq_some_iff.1 hoi).1
                have hc : i = 0 ∨ i = 1 ∨ i = 2 ∨ i = 3 ∨ i = 4 ∨ i = 5 ∨ i = 6 ∨ i = 7 ∨ i = 8 ∨ i = 9 ∨ i = 10 ∨ i = 11 ∨ i = 12 ∨ i = 13 ∨ i = 14 ∨ i = 15 ∨ i = 16 ∨ i = 17 ∨ i = 18 ∨ i = 19 ∨ i = 20 ∨ i = 21 ∨ i = 22 ∨ i = 23 ∨ i = 24 ∨ i = 25 ∨ i = 26 := by omega
                rcases hc with rfl | rfl | rfl | rfl | rfl | rfl | rfl | rfl | rfl | rfl | rfl | rfl | rfl | rfl | rfl | rfl | rfl | rfl | rfl | rfl | rfl | rfl | rfl | rfl | rfl | rfl | rfl
                · exact absurd hr (by decide)
                · exact absurd hr (by decide)
                · exact absurd hr (by decide)
                · exact absurd hr (by decide)
                · exact absurd hr (by decide)
                · exact absurd hr (by decide)
                · exact absurd hr (by decide)
                · exact absurd hr (by decide)
                · exact absurd hr (by decide)
                · exact absurd hr (by decide)
                · cases hoi; exact ⟨_, _, rfl⟩
                · exact absurd hr (by decide)
                · exact absurd hr (by decide)
                · exact absurd hr (by decide)
                · exact absurd hr (by decide)
                · exact absurd hr (by decide)
                · exact absurd hr (by decide)
                · exact absurd hr (by decide)
                · exact absurd hr (by decide)
                · exact absurd hr (by decide)
                · exact absurd hr (by decide)
                · exact absurd hr (by decide)
                · exact absurd hr (by decide)
                · exact absurd hr (by decide)
                · exact absurd hr (by decide)
                · exact absurd hr (by decide)
                · exact absurd hr (by decide)
              case hsk =>
                intro i us w hr hS
                by_cases hi : i < 27
                · have hc : i = 0 ∨ i = 1 ∨ i = 2 ∨ i = 3 ∨ i = 4 ∨ i = 5 ∨ i = 6 ∨ i = 7 ∨ i = 8 ∨ i = 9 ∨ i = 10 ∨ i = 11 ∨ i = 12 ∨ i = 13 ∨ i = 14 ∨ i = 15 ∨ i = 16 ∨ i = 17 ∨ i = 18 ∨ i = 19 ∨ i = 20 ∨ i = 21 ∨ i = 22 ∨ i = 23 ∨ i = 24 ∨ i = 25 ∨ i = 26 := by omega
                  rcases hc with rfl | rfl | rfl | rfl | rfl | rfl | rfl | rfl | rfl | rfl | rfl | rfl | rfl | rfl | rfl | rfl | rfl | rfl | rfl | rfl | rfl | rfl | rfl | rfl | rfl | rfl | rfl
                  · exact absurd hr (by decide)
                  · exact absurd hr (by decide)
                  · exact absurd hr (by decide)
                  · exact absurd hr (by decide)
                  · exact absurd hr (by decide)
                  · exact absurd hr (by decide)
                  · exact absurd hr (by decide)
                  · exact absurd hr (by decide)
                  · exact absurd hr (by decide)
                  · exact absurd hr (by decide)
                  · exact rfl
                  · exact absurd hr (by decide)
                  · exact absurd hr (by decide)
                  · exact absurd hr (by decide)
                  · exact absurd hr (by decide)
                  · exact absurd hr (by decide)
                  · exact absurd hr (by decide)
                  · exact absurd hr (by decide)
                  · exact absurd hr (by decide)
                  · exact absurd hr (by decide)
                  · exact absurd hr (by decide)
                  · exact absurd hr (by decide)
                  · exact absurd hr (by decide)
                  · exact absurd hr (by decide)
                  · exact absurd hr (by decide)
                  · exact absurd hr (by decide)
                  · exact absurd hr (by decide)
                · exact absurd hr (by rw [show adytyN i = true from by unfold adytyN; simp; omega]; decide)
              case refine_1 =>
                intro hrun a' w9 hS h0 hd
                have e10 : a'.tmps[10]?.getD undef = .int .i64 0 := vev (h0 10 (by kernel_rfl))
                refine Does2.value (.int .i64 0) (w' := w9) ?_ ⟨rfl, hS, Below.refl _ _⟩
                clear hS h0 hd hrun
                go_simp
              case refine_2 =>
                intro hrun a' w9 hS h0 hd
                have e57 : a'.tmps[57]?.getD undef = .int .i64 0 := vev (hd 0 List.mem_cons_self)
                refine Does2.value (.bool true) (w' := w9) ?_ ⟨rfl, hS, Below.refl _ _⟩
                clear hS h0 hd hrun
                go_simp
              case refine_3 =>
                intro hrun a' w9 hS h0 hd
                have e58 : a'.tmps[58]?.getD undef = .bool true := vev (hd 1 List.mem_cons_self)
                refine Does2.value (.bool true) (w' := w9) ?_ ⟨rfl, hS, Below.refl _ _⟩
                clear hS h0 hd hrun
                go_simp
              case refine_4 =>
                intro hrun a' w9 hS h0 hd
                have e8 : a'.tmps[8]?.getD undef = .pointer (some ⟨w104.heap.size, 0, none⟩) := vev (h0 8 (by kernel_rfl))
                obtain ⟨y0, y1, y2, y3, -⟩ := (VA.out.below hS VA.out.lt).cells
                refine Does2.value (.agg #[.int .u32 g, .bool xA, .int .i64 lA, .slice aA nA cA]) (w' := w9) ?_ ⟨rfl, hS, Below.refl _ _⟩
                clear hS h0 hd hrun
                go_simp
              case refine_5 =>
                intro hrun a' w9 hS h0 hd
                have e6 : a'.tmps[6]?.getD undef = .int .u32 x := vev (h0 6 (by kernel_rfl))
                refine Does2.value (.int .u32 x) (w' := w9) ?_ ⟨rfl, hS, Below.refl _ _⟩
                clear hS h0 hd hrun
                go_simp
              case refine_6 =>
                intro hrun a' w9 hS h0 hd
                have e60 : a'.tmps[60]?.getD undef = .agg #[.int .u32 g, .bool xA, .int .i64 lA, .slice aA nA cA] := vev (hd 3 List.mem_cons_self)
                have e61 : a'.tmps[61]?.getD undef = .int .u32 x := vev (hd 4 (List.mem_cons_of_mem _ List.mem_cons_self))
                refine Does2.call 32 #[.agg #[.int .u32 g, .bool xA, .int .i64 lA, .slice aA nA cA], .int .u32 x] (w' := w9) ?_ ((mWants g xA lA aA nA cA sA x w9 NNA.out (by have := HRA.out.2.1; rw [NNA.out] at this; omega) (SSA.out.below hS) HRA.out.inc HRA.out.nn).mono ?_)
                · clear hS h0 hd
                  go_simp
                · rw [FA3.out]
                  rintro e w8 ⟨rfl, hb⟩
                  exact ⟨_, rfl, rfl, hS.trans (hb.mono hS.size), hb⟩
              case refine_7 =>
                intro hrun a' w9 hS h0 hd
                have e4 : a'.tmps[4]?.getD undef = .pointer (some ⟨w.heap.size + 2, 0, none⟩) := vev (h0 4 (by kernel_rfl))
                obtain ⟨y0, y1, y2, y3, -⟩ := (VM.out.below hS VM.out.lt).cells
                refine Does2.value (.agg #[.int .u32 g, .bool ex, .int .i64 left, .slice a n c]) (w' := w9) ?_ ⟨rfl, hS, Below.refl _ _⟩
                clear hS h0 hd hrun
                go_simp
              case refine_8 =>
                intro hrun a' w9 hS h0 hd
                have e6 : a'.tmps[6]?.getD undef = .int .u32 x := vev (h0 6 (by kernel_rfl))
                refine Does2.value (.int .u32 x) (w' := w9) ?_ ⟨rfl, hS, Below.refl _ _⟩
                clear hS h0 hd hrun
                go_simp
              case refine_9 =>
                intro hrun a' w9 hS h0 hd
                have e63 : a'.tmps[63]?.getD undef = .agg #[.int .u32 g, .bool ex, .int .i64 left, .slice a n c] := vev (hd 6 List.mem_cons_self)
                have e64 : a'.tmps[64]?.getD undef = .int .u32 x := vev (hd 7 (List.mem_cons_of_mem _ List.mem_cons_self))
                refine Does2.call 32 #[.agg #[.int .u32 g, .bool ex, .int .i64 left, .slice a n c], .int .u32 x] (w' := w9) ?_ ((mWants g ex left a n c s x w9 HX.out (by omega) (SM.out.below hS) OK.out.inc OK.out.nn).mono ?_)
                · clear hS h0 hd
                  go_simp
                · rw [MW.out]
                  rintro e w8 ⟨rfl, hb⟩
                  exact ⟨_, rfl, rfl, hS.trans (hb.mono hS.size), hb⟩
              case refine_10 =>
                intro hrun a' w9 hS h0 hd
                have e65 : a'.tmps[65]?.getD undef = .bool true := vev (hd 8 List.mem_cons_self)
                refine Does2.value (.bool true) (w' := w9) ?_ ⟨rfl, hS, Below.refl _ _⟩
                clear hS h0 hd hrun
                go_simp
              case refine_11 =>
                intro hrun a' w9 hS h0 hd
                exact absurd hrun (by decide)
              case refine_12 =>
                intro hrun a' w9 hS h0 hd
                have e66 : a'.tmps[66]?.getD undef = .bool true := vev (hd 9 List.mem_cons_self)
                have e67 : a'.tmps[67]?.getD undef = undef := vev (hd 10 (List.mem_cons_of_mem _ List.mem_cons_self))
                refine Does2.value (.bool true) (w' := w9) ?_ ⟨rfl, hS, Below.refl _ _⟩
                clear hS h0 hd hrun
                go_simp
              case refine_13 =>
                intro hrun a' w9 hS h0 hd
                have e62 : a'.tmps[62]?.getD undef = .bool true := vev (hd 5 List.mem_cons_self)
                have e68 : a'.tmps[68]?.getD undef = .bool true := vev (hd 11 (List.mem_cons_of_mem _ List.mem_cons_self))
                refine Does2.value (.bool false) (w' := w9) ?_ ⟨rfl, hS, Below.refl _ _⟩
                clear hS h0 hd hrun
                go_simp
              case refine_14 =>
                intro hrun a' w9 hS h0 hd
                have e59 : a'.tmps[59]?.getD undef = .bool true := vev (hd 2 List.mem_cons_self)
                have e69 : a'.tmps[69]?.getD undef = .bool false := vev (hd 12 (List.mem_cons_of_mem _ List.mem_cons_self))
                refine Does2.value (.bool false) (w' := w9) ?_ ⟨rfl, hS, Below.refl _ _⟩
                clear hS h0 hd hrun
                go_simp
              case refine_15 =>
                intro hrun a' w9 hS h0 hd
                have e70 : a'.tmps[70]?.getD undef = .bool false := vev (hd 13 List.mem_cons_self)
                refine Does2.value (.bool false) (w' := w9) ?_ ⟨rfl, hS, Below.refl _ _⟩
                clear hS h0 hd hrun
                go_simp
              case refine_16 =>
                intro hrun a' w9 hS h0 hd
                have e13 : a'.tmps[13]?.getD undef = .int .i64 0 := vev (h0 13 (by kernel_rfl))
                refine Does2.value (.int .i64 0) (w' := w9) ?_ ⟨rfl, hS, Below.refl _ _⟩
                clear hS h0 hd hrun
                go_simp
              case refine_17 =>
                intro hrun a' w9 hS h0 hd
                have e72 : a'.tmps[72]?.getD undef = .int .i64 0 := vev (hd 15 List.mem_cons_self)
                refine Does2.value (.bool true) (w' := w9) ?_ ⟨rfl, hS, Below.refl _ _⟩
                clear hS h0 hd hrun
                go_simp
              case refine_18 =>
                intro hrun a' w9 hS h0 hd
                have e73 : a'.tmps[73]?.getD undef = .bool true := vev (hd 16 List.mem_cons_self)
                refine Does2.value (.bool true) (w' := w9) ?_ ⟨rfl, hS, Below.refl _ _⟩
                clear hS h0 hd hrun
                go_simp
              case refine_19 =>
                intro hrun a' w9 hS h0 hd
                have e11 : a'.tmps[11]?.getD undef = .pointer (some ⟨w106.heap.size, 0, none⟩) := vev (h0 11 (by kernel_rfl))
                obtain ⟨y0, y1, y2, y3, -⟩ := (VB.out.below hS VB.out.lt).cells
                refine Does2.value (.agg #[.int .u32 g, .bool xB, .int .i64 lB, .slice aB nB cB]) (w' := w9) ?_ ⟨rfl, hS, Below.refl _ _⟩
                clear hS h0 hd hrun
                go_simp
              case refine_20 =>
                intro hrun a' w9 hS h0 hd
                have e6 : a'.tmps[6]?.getD undef = .int .u32 x := vev (h0 6 (by kernel_rfl))
                refine Does2.value (.int .u32 x) (w' := w9) ?_ ⟨rfl, hS, Below.refl _ _⟩
                clear hS h0 hd hrun
                go_simp
              case refine_21 =>
                intro hrun a' w9 hS h0 hd
                have e75 : a'.tmps[75]?.getD undef = .agg #[.int .u32 g, .bool xB, .int .i64 lB, .slice aB nB cB] := vev (hd 18 List.mem_cons_self)
                have e76 : a'.tmps[76]?.getD undef = .int .u32 x := vev (hd 19 (List.mem_cons_of_mem _ List.mem_cons_self))
                refine Does2.call 32 #[.agg #[.int .u32 g, .bool xB, .int .i64 lB, .slice aB nB cB], .int .u32 x] (w' := w9) ?_ ((mWants g xB lB aB nB cB sB x w9 NNB.out (by have := HRB.out.2.1; rw [NNB.out] at this; omega) (SSB.out.below hS) HRB.out.inc HRB.out.nn).mono ?_)
                · clear hS h0 hd
                  go_simp
                · rw [FB3.out]
                  rintro e w8 ⟨rfl, hb⟩
                  exact ⟨_, rfl, rfl, hS.trans (hb.mono hS.size), hb⟩
              case refine_22 =>
                intro hrun a' w9 hS h0 hd
                have e4 : a'.tmps[4]?.getD undef = .pointer (some ⟨w.heap.size + 2, 0, none⟩) := vev (h0 4 (by kernel_rfl))
                obtain ⟨y0, y1, y2, y3, -⟩ := (VM.out.below hS VM.out.lt).cells
                refine Does2.value (.agg #[.int .u32 g, .bool ex, .int .i64 left, .slice a n c]) (w' := w9) ?_ ⟨rfl, hS, Below.refl _ _⟩
                clear hS h0 hd hrun
                go_simp
              case refine_23 =>
                intro hrun a' w9 hS h0 hd
                have e6 : a'.tmps[6]?.getD undef = .int .u32 x := vev (h0 6 (by kernel_rfl))
                refine Does2.value (.int .u32 x) (w' := w9) ?_ ⟨rfl, hS, Below.refl _ _⟩
                clear hS h0 hd hrun
                go_simp
              case refine_24 =>
                intro hrun a' w9 hS h0 hd
                have e78 : a'.tmps[78]?.getD undef = .agg #[.int .u32 g, .bool ex, .int .i64 left, .slice a n c] := vev (hd 21 List.mem_cons_self)
                have e79 : a'.tmps[79]?.getD undef = .int .u32 x := vev (hd 22 (List.mem_cons_of_mem _ List.mem_cons_self))
                refine Does2.call 32 #[.agg #[.int .u32 g, .bool ex, .int .i64 left, .slice a n c], .int .u32 x] (w' := w9) ?_ ((mWants g ex left a n c s x w9 HX.out (by omega) (SM.out.below hS) OK.out.inc OK.out.nn).mono ?_)
                · clear hS h0 hd
                  go_simp
                · rw [MW.out]
                  rintro e w8 ⟨rfl, hb⟩
                  exact ⟨_, rfl, rfl, hS.trans (hb.mono hS.size), hb⟩
              case refine_25 =>
                intro hrun a' w9 hS h0 hd
                have e77 : a'.tmps[77]?.getD undef = .bool true := vev (hd 20 List.mem_cons_self)
                have e80 : a'.tmps[80]?.getD undef = .bool true := vev (hd 23 (List.mem_cons_of_mem _ List.mem_cons_self))
                refine Does2.value (.bool false) (w' := w9) ?_ ⟨rfl, hS, Below.refl _ _⟩
                clear hS h0 hd hrun
                go_simp
              case refine_26 =>
                intro hrun a' w9 hS h0 hd
                have e74 : a'.tmps[74]?.getD undef = .bool true := vev (hd 17 List.mem_cons_self)
                have e81 : a'.tmps[81]?.getD undef = .bool false := vev (hd 24 (List.mem_cons_of_mem _ List.mem_cons_self))
                refine Does2.value (.bool false) (w' := w9) ?_ ⟨rfl, hS, Below.refl _ _⟩
                clear hS h0 hd hrun
                go_simp
              case refine_27 =>
                intro hrun a' w9 hS h0 hd
                have e71 : a'.tmps[71]?.getD undef = .bool false := vev (hd 14 List.mem_cons_self)
                have e82 : a'.tmps[82]?.getD undef = .bool false := vev (hd 25 (List.mem_cons_of_mem _ List.mem_cons_self))
                refine Does2.value (.bool false) (w' := w9) ?_ ⟨rfl, hS, Below.refl _ _⟩
                clear hS h0 hd hrun
                go_simp
              case hend =>
                intro f wE hS hv
                have v83 := hv 26 (by decide)
                replace v83 : f 83 = .bool false := v83
                simp only [putAll, Act.put, List.setIfInBounds_toArray, List.set_cons_zero, List.set_cons_succ, v83]
                have BB := Lib.hid (BB.out.trans (hS.mono BB.out.size))
                have SM := Lib.hid (SM.out.below hS)
                have SL := Lib.hid (SL.out.below hS)
                have SSA := Lib.hid (SSA.out.below hS)
                have QQA := Lib.hid (QQA.out.below hS)
                have SSB := Lib.hid (SSB.out.below hS)
                have QQB := Lib.hid (QQB.out.below hS)
                have TT := Lib.hid (TT.out.below hS)
                have VM := Lib.hid (VM.out.below hS VM.out.lt)
                have VA := Lib.hid (VA.out.below hS VA.out.lt)
                have VB := Lib.hid (VB.out.below hS VB.out.lt)
                clear hS hv v83
                cases bx
                · obtain ⟨TT0, TT1⟩ := TT.out
                  obtain ⟨VM0, VM1, VM2, VM3, -⟩ := VM.out.cells
                  obtain ⟨VA0, VA1, VA2, VA3, -⟩ := VA.out.cells
                  obtain ⟨VB0, VB1, VB2, VB3, -⟩ := VB.out.cells
                  go_wp2_with fail
                  go_ret
                  exact ⟨rfl, BB.out⟩
                · obtain ⟨TT0, TT1⟩ := TT.out
                  obtain ⟨VM0, VM1, VM2, VM3, -⟩ := VM.out.cells
                  obtain ⟨VA0, VA1, VA2, VA3, -⟩ := VA.out.cells
                  obtain ⟨VB0, VB1, VB2, VB3, -⟩ := VB.out.cells
                  go_wp2_with fail
                  refine (mTick g xB lB aB nB cB sB la _ NNB.out (by have := HRB.out.2.1; rw [NNB.out] at this; omega) SSB.out (fun y hy => by have := (HRB.out.lb.weak (lo_nn _)) y hy; omega) (by have := HRB.out.left; omega) (by have := TB.out; omega)).mono ?_
                  rintro e w109 ⟨⟨aD, cD, rfl, hD⟩, hb⟩
                  clear TT0 TT1 VM0 VM1 VM2 VM3 VA0 VA1 VA2 VA3 VB0 VB1 VB2 VB3
                  have BB := Lib.hid (BB.out.trans (hb.mono BB.out.size))
                  have SM := Lib.hid (SM.out.below hb)
                  have SL := Lib.hid (SL.out.below hb)
                  have SSA := Lib.hid (SSA.out.below hb)
                  have QQA := Lib.hid (QQA.out.below hb)
                  have SSB := Lib.hid (SSB.out.below hb)
                  have QQB := Lib.hid (QQB.out.below hb)
                  have TT := Lib.hid (TT.out.below hb)
                  have VM := Lib.hid (VM.out.below hb VM.out.lt)
                  have VA := Lib.hid (VA.out.below hb VA.out.lt)
                  have VB := Lib.hid (VB.out.below hb VB.out.lt)
                  clear hb
                  have hmx : max la 0 = la := by have := TB.out; omega
                  rw [hmx] at hD ⊢
                  have HRD := Lib.hid (tick_ok HRB.out (show 0 ≤ la by have := TB.out; omega))
                  have SSD := Lib.hid hD.1
                  clear hD hmx
                  have FD1 := Lib.hid (FB2.out (by trivial) (of_decide_eq_true BX.out))
                  obtain ⟨TT0, TT1⟩ := TT.out
                  obtain ⟨VM0, VM1, VM2, VM3, -⟩ := VM.out.cells
                  obtain ⟨VA0, VA1, VA2, VA3, -⟩ := VA.out.cells
                  obtain ⟨VB0, VB1, VB2, VB3, -⟩ := VB.out.cells
                  go_wp2_with fail
                  refine (mWants g _ _ aD _ cD _ x _ rfl (by have := HRD.out.2.1; omega) SSD.out HRD.out.inc HRD.out.nn).mono ?_
                  rintro e w110 ⟨rfl, hb⟩
                  clear TT0 TT1 VM0 VM1 VM2 VM3 VA0 VA1 VA2 VA3 VB0 VB1 VB2 VB3
                  have BB := Lib.hid (BB.out.trans (hb.mono BB.out.size))
                  have SM := Lib.hid (SM.out.below hb)
                  have SL := Lib.hid (SL.out.below hb)
                  have SSA := Lib.hid (SSA.out.below hb)
                  have QQA := Lib.hid (QQA.out.below hb)
                  have SSB := Lib.hid (SSB.out.below hb)
                  have QQB := Lib.hid (QQB.out.below hb)
                  have SSD := Lib.hid (SSD.out.below hb)
                  have TT := Lib.hid (TT.out.below hb)
                  have VM := Lib.hid (VM.out.below hb VM.out.lt)
                  have VA := Lib.hid (VA.out.below hb VA.out.lt)
                  have VB := Lib.hid (VB.out.below hb VB.out.lt)
                  clear hb
                  rw [FD1.out]
                  obtain ⟨TT0, TT1⟩ := TT.out
                  obtain ⟨VM0, VM1, VM2, VM3, -⟩ := VM.out.cells
                  obtain ⟨VA0, VA1, VA2, VA3, -⟩ := VA.out.cells
                  obtain ⟨VB0, VB1, VB2, VB3, -⟩ := VB.out.cells
                  go_wp2_with fail
                  go_ret
                  exact ⟨rfl, BB.out⟩
            · have zB' : (eB == 0) = false := by simpa using zB
              have zB2 : (eB != 0) = true := by simpa using zB
              clear zB
              obtain ⟨TT0, TT1⟩ := TT.out
              obtain ⟨VM0, VM1, VM2, VM3, -⟩ := VM.out.cells
              obtain ⟨VA0, VA1, VA2, VA3, -⟩ := VA.out.cells
              obtain ⟨VB0, VB1, VB2, VB3, -⟩ := VB.out.cells
              go_wp2_with fail
              clear TT0 TT1 VM0 VM1 VM2 VM3 VA0 VA1 VA2 VA3 VB0 VB1 VB2 VB3
              refine wp_region_each4 (adytnV g x ex left a n c xA lA aA nA cA xB lB aB nB cB 0 eB bx true) (fun W => Below w108.heap.size w108 W) (fun _ A B => Below A.heap.size A B) adytnD adytnN [57, 58, 59, 60, 61, 62, 63, 64, 65, 66, 67, 68, 69, 70, 71, 72, 73, 74, 75, 76, 77, 78, 79, 80, 81, 82, 83] (by kernel_rfl) (by kernel_rfl) (by kernel_rfl) (Below.refl _ w108).drew
                (fun i j oi oj v us A B hoi hoj hij hw hSA hr hv => adytn_st _ _ _ _ _ _ _ _ _ _ _ _ _ _ _ _ _ _ _ _ _ hr hv) ?hgd ?hng ?hsk
                ⟨?_, ?_, ?_, ?_, ?_, ?_, ?_, ?_, ?_, ?_, ?_, ?_, ?_, ?_, ?_, ?_, ?_, ?_, ?_, ?_, ?_, ?_, ?_, ?_, ?_, ?_, ?_, trivial⟩ ?hend
              case hgd =>
                intro i o g b hoi hog v us w hv
                have hi : i < 27 := (Array.getElem?_eq_some_iff.1 hoi).1
                have hc : i = 0 ∨ i = 1 ∨ i = 2 ∨ i = 3 ∨ i = 4 ∨ i = 5 ∨ i = 6 ∨ i = 7 ∨ i = 8 ∨ i = 9 ∨ i = 10 ∨ i = 11 ∨ i = 12 ∨ i = 13 ∨ i = 14 ∨ i = 15 ∨ i = 16 ∨ i = 17 ∨ i = 18 ∨ i = 19 ∨ i = 20 ∨ i = 21 ∨ i = 22 ∨ i = 23 ∨ i = 24 ∨ i = 25 ∨ i = 26 := by omega
                rcases hc with rfl | rfl | rfl | rfl | rfl | rfl | rfl | rfl | rfl | rfl | rfl | rfl | rfl | rfl | rfl | rfl | rfl | rfl | rfl | rfl | rfl | rfl | rfl | rfl | rfl | rfl | rfl
                · cases hoi; cases hog
                · cases hoi; cases hog
                · cases hoi; cases hog
                · cases hoi; cases hog; exact hv
                · cases hoi; cases hog; exact hv
                · cases hoi; cases hog; exact hv
                · cases hoi; cases hog; exact hv
                · cases hoi; cases hog; exact hv
                · cases hoi; cases hog; exact hv
                · cases hoi; cases hog; exact hv
                · cases hoi; cases hog
                  show v ≠ _
                  rw [show v = _ from hv]
                  intro e; cases e
                · cases hoi; cases hog; exact hv
                · cases hoi; cases hog; exact hv
                · cases hoi; cases hog
                · cases hoi; cases hog
                · cases hoi; cases hog; exact hv
                · cases hoi; cases hog; exact hv
                · cases hoi; cases hog; exact hv
                · cases hoi; cases hog
                  show v ≠ _
                  rw [show v = _ from hv]
                  intro e; cases e
                · cases hoi; cases hog
                  show v ≠ _
                  rw [show v = _ from hv]
                  intro e; cases e
                · cases hoi; cases hog
                  show v ≠ _
                  rw [show v = _ from hv]
                  intro e; cases e
                · cases hoi; cases hog
                  show v ≠ _
                  rw [show v = _ from hv]
                  intro e; cases e
                · cases hoi; cases hog
                  show v ≠ _
                  rw [show v = _ from hv]
                  intro e; cases e
                · cases hoi; cases hog
                  show v ≠ _
                  rw [show v = _ from hv]
                  intro e; cases e
                · cases hoi; cases hog
                  show v ≠ _
                  rw [show v = _ from hv]
                  intro e; cases e
                · cases hoi; cases hog; exact hv
                · cases hoi; cases hog
              case hng =>
                intro i o hoi hr
                have hi : i < 27 := (Array.getElem?_eq_some_iff.1 hoi).1
                have hc : i = 0 ∨ i = 1 ∨ i = 2 ∨ i = 3 ∨ i = 4 ∨ i = 5 ∨ i = 6 ∨ i = 7 ∨ i = 8 ∨ i = 9 ∨ i = 10 ∨ i = 11 ∨ i = 12 ∨ i = 13 ∨ i = 14 ∨ i = 15 ∨ i = 16 ∨ i = 17 ∨ i = 18 ∨ i = 19 ∨ i = 20 ∨ i = 21 ∨ i = 22 ∨ i = 23 ∨ i = 24 ∨ i = 25 ∨ i = 26 := by omega
                rcases hc with rfl | rfl | rfl | rfl | rfl | rfl | rfl | rfl | rfl | rfl | rfl | rfl | rfl | rfl | rfl | rfl | rfl | rfl | rfl | rfl | rfl | rfl | rfl | rfl | rfl | rfl | rfl
                · exact absurd hr (by decide)
                · exact absurd hr (by decide)
                · exact absurd hr (by decide)
                · exact absurd hr (by decide)
                · exact absurd hr (by decide)
                · exact absurd hr (by decide)
                · exact absurd hr (by decide)
                · exact absurd hr (by decide)
                · exact absurd hr (by decide)
                · exact absurd hr (by decide)
                · cases hoi; exact ⟨_, _, rfl⟩
                · exact absurd hr (by decide)
                · exact absurd hr (by decide)
                · exact absurd hr (by decide)
                · exact absurd hr (by decide)
                · exact absurd hr (by decide)
                · exact absurd hr (by decide)
                · exact absurd hr (by decide)
                · cases hoi; exact ⟨_, _, rfl⟩
                · cases hoi; exact ⟨_, _, rfl⟩
                · cases hoi; exact ⟨_, _, rfl⟩
                · cases hoi; exact ⟨_, _, rfl⟩
                · cases hoi; exact ⟨_, _, rfl⟩
                · cases hoi; exact ⟨_, _, rfl⟩
                · cases hoi; exact ⟨_, _, rfl⟩
                · exact absurd hr (by decide)
                · exact absurd hr (by decide)
              case hsk =>
                intro i us w hr hS
                by_cases hi : i < 27
                · have hc : i = 0 ∨ i = 1 ∨ i = 2 ∨ i = 3 ∨ i = 4 ∨ i = 5 ∨ i = 6 ∨ i = 7 ∨ i = 8 ∨ i = 9 ∨ i = 10 ∨ i = 11 ∨ i = 12 ∨ i = 13 ∨ i = 14 ∨ i = 15 ∨ i = 16 ∨ i = 17 ∨ i = 18 ∨ i = 19 ∨ i = 20 ∨ i = 21 ∨ i = 22 ∨ i = 23 ∨ i = 24 ∨ i = 25 ∨ i = 26 := by omega
                  rcases hc with rfl | rfl | rfl | rfl | rfl | rfl | rfl | rfl | rfl | rfl | rfl | rfl | rfl | rfl | rfl | rfl | rfl | rfl | rfl | rfl | rfl | rfl | rfl | rfl | rfl | rfl | rfl
                  · exact absurd hr (by decide)
                  · exact absurd hr (by decide)
                  · exact absurd hr (by decide)
                  · exact absurd hr (by decide)
                  · exact absurd hr (by decide)
                  · exact absurd hr (by decide)
                  · exact absurd hr (by decide)
                  · exact absurd hr (by decide)
                  · exact absurd hr (by decide)
                  · exact absurd hr (by decide)
                  · exact rfl
                  · exact absurd hr (by decide)
                  · exact absurd hr (by decide)
                  · exact absurd hr (by decide)
                  · exact absurd hr (by decide)
                  · exact absurd hr (by decide)
                  · exact absurd hr (by decide)
                  · exact absurd hr (by decide)
                  · exact rfl
                  · exact rfl
                  · exact rfl
                  · exact rfl
                  · exact rfl
                  · exact rfl
                  · exact rfl
                  · exact absurd hr (by decide)
                  · exact absurd hr (by decide)
                · exact absurd hr (by rw [show adytnN i = true from by unfold adytnN; simp; omega]; decide)
              case refine_1 =>
                intro hrun a' w9 hS h0 hd
                have e10 : a'.tmps[10]?.getD undef = .int .i64 0 := vev (h0 10 (by kernel_rfl))
                refine Does2.value (.int .i64 0) (w' := w9) ?_ ⟨rfl, hS, Below.refl _ _⟩
                clear hS h0 hd hrun
                go_simp
              case refine_2 =>
                intro hrun a' w9 hS h0 hd
                have e57 : a'.tmps[57]?.getD undef = .int .i64 0 := vev (hd 0 List.mem_cons_self)
                refine Does2.value (.bool true) (w' := w9) ?_ ⟨rfl, hS, Below.refl _ _⟩
                clear hS h0 hd hrun
                go_simp
              case refine_3 =>
                intro hrun a' w9 hS h0 hd
                have e58 : a'.tmps[58]?.getD undef = .bool true := vev (hd 1 List.mem_cons_self)
                refine Does2.value (.bool true) (w' := w9) ?_ ⟨rfl, hS, Below.refl _ _⟩
                clear hS h0 hd hrun
                go_simp
              case refine_4 =>
                intro hrun a' w9 hS h0 hd
                have e8 : a'.tmps[8]?.getD undef = .pointer (some ⟨w104.heap.size, 0, none⟩) := vev (h0 8 (by kernel_rfl))
                obtain ⟨y0, y1, y2, y3, -⟩ := (VA.out.below hS VA.out.lt).cells
                refine Does2.value (.agg #[.int .u32 g, .bool xA, .int .i64 lA, .slice aA nA cA]) (w' := w9) ?_ ⟨rfl, hS, Below.refl _ _⟩
                clear hS h0 hd hrun
                go_simp
              case refine_5 =>
                intro hrun a' w9 hS h0 hd
                have e6 : a'.tmps[6]?.getD undef = .int .u32 x := vev (h0 6 (by kernel_rfl))
                refine Does2.value (.int .u32 x) (w' := w9) ?_ ⟨rfl, hS, Below.refl _ _⟩
                clear hS h0 hd hrun
                go_simp
              case refine_6 =>
                intro hrun a' w9 hS h0 hd
                have e60 : a'.tmps[60]?.getD undef = .agg #[.int .u32 g, .bool xA, .int .i64 lA, .slice aA nA cA] := vev (hd 3 List.mem_cons_self)
                have e61 : a'.tmps[61]?.getD undef = .int .u32 x := vev (hd 4 (List.mem_cons_of_mem _ List.mem_cons_self))
                refine Does2.call 32 #[.agg #[.int .u32 g, .bool xA, .int .i64 lA, .slice aA nA cA], .int .u32 x] (w' := w9) ?_ ((mWants g xA lA aA nA cA sA x w9 NNA.out (by have := HRA.out.2.1; rw [NNA.out] at this; omega) (SSA.out.below hS) HRA.out.inc HRA.out.nn).mono ?_)
                · clear hS h0 hd
                  go_simp
                · rw [FA3.out]
                  rintro e w8 ⟨rfl, hb⟩
                  exact ⟨_, rfl, rfl, hS.trans (hb.mono hS.size), hb⟩
              case refine_7 =>
                intro hrun a' w9 hS h0 hd
                have e4 : a'.tmps[4]?.getD undef = .pointer (some ⟨w.heap.size + 2, 0, none⟩) := vev (h0 4 (by kernel_rfl))
                obtain ⟨y0, y1, y2, y3, -⟩ := (VM.out.below hS VM.out.lt).cells
                refine Does2.value (.agg #[.int .u32 g, .bool ex, .int .i64 left, .slice a n c]) (w' := w9) ?_ ⟨rfl, hS, Below.refl _ _⟩
                clear hS h0 hd hrun
                go_simp
              case refine_8 =>
                intro hrun a' w9 hS h0 hd
                have e6 : a'.tmps[6]?.getD undef = .int .u32 x := vev (h0 6 (by kernel_rfl))
                refine Does2.value (.int .u32 x) (w' := w9) ?_ ⟨rfl, hS, Below.refl _ _⟩
                clear hS h0 hd hrun
                go_simp
              case refine_9 =>
                intro hrun a' w9 hS h0 hd
                have e63 : a'.tmps[63]?.getD undef = .agg #[.int .u32 g, .bool ex, .int .i64 left, .slice a n c] := vev (hd 6 List.mem_cons_self)
                have e64 : a'.tmps[64]?.getD undef = .int .u32 x := vev (hd 7 (List.mem_cons_of_mem _ List.mem_cons_self))
                refine Does2.call 32 #[.agg #[.int .u32 g, .bool ex, .int .i64 left, .slice a n c], .int .u32 x] (w' := w9) ?_ ((mWants g ex left a n c s x w9 HX.out (by omega) (SM.out.below hS) OK.out.inc OK.out.nn).mono ?_)
                · clear hS h0 hd
                  go_simp
                · rw [MW.out]
                  rintro e w8 ⟨rfl, hb⟩
                  exact ⟨_, rfl, rfl, hS.trans (hb.mono hS.size), hb⟩
              case refine_10 =>
                intro hrun a' w9 hS h0 hd
                have e65 : a'.tmps[65]?.getD undef = .bool true := vev (hd 8 List.mem_cons_self)
                refine Does2.value (.bool true) (w' := w9) ?_ ⟨rfl, hS, Below.refl _ _⟩
                clear hS h0 hd hrun
                go_simp
              case refine_11 =>
                intro hrun a' w9 hS h0 hd
                exact absurd hrun (by decide)
              case refine_12 =>
                intro hrun a' w9 hS h0 hd
                have e66 : a'.tmps[66]?.getD undef = .bool true := vev (hd 9 List.mem_cons_self)
                have e67 : a'.tmps[67]?.getD undef = undef := vev (hd 10 (List.mem_cons_of_mem _ List.mem_cons_self))
                refine Does2.value (.bool true) (w' := w9) ?_ ⟨rfl, hS, Below.refl _ _⟩
                clear hS h0 hd hrun
                go_simp
              case refine_13 =>
                intro hrun a' w9 hS h0 hd
                have e62 : a'.tmps[62]?.getD undef = .bool true := vev (hd 5 List.mem_cons_self)
                have e68 : a'.tmps[68]?.getD undef = .bool true := vev (hd 11 (List.mem_cons_of_mem _ List.mem_cons_self))
                refine Does2.value (.bool false) (w' := w9) ?_ ⟨rfl, hS, Below.refl _ _⟩
                clear hS h0 hd hrun
                go_simp
              case refine_14 =>
                intro hrun a' w9 hS h0 hd
                have e59 : a'.tmps[59]?.getD undef = .bool true := vev (hd 2 List.mem_cons_self)
                have e69 : a'.tmps[69]?.getD undef = .bool false := vev (hd 12 (List.mem_cons_of_mem _ List.mem_cons_self))
                refine Does2.value (.bool false) (w' := w9) ?_ ⟨rfl, hS, Below.refl _ _⟩
                clear hS h0 hd hrun
                go_simp
              case refine_15 =>
                intro hrun a' w9 hS h0 hd
                have e70 : a'.tmps[70]?.getD undef = .bool false := vev (hd 13 List.mem_cons_self)
                refine Does2.value (.bool false) (w' := w9) ?_ ⟨rfl, hS, Below.refl _ _⟩
                clear hS h0 hd hrun
                go_simp
              case refine_16 =>
                intro hrun a' w9 hS h0 hd
                have e13 : a'.tmps[13]?.getD undef = .int .i64 eB := vev (h0 13 (by kernel_rfl))
                refine Does2.value (.int .i64 eB) (w' := w9) ?_ ⟨rfl, hS, Below.refl _ _⟩
                clear hS h0 hd hrun
                go_simp
              case refine_17 =>
                intro hrun a' w9 hS h0 hd
                have e72 : a'.tmps[72]?.getD undef = .int .i64 eB := vev (hd 15 List.mem_cons_self)
                refine Does2.value (.bool false) (w' := w9) ?_ ⟨rfl, hS, Below.refl _ _⟩
                clear hS h0 hd hrun
                go_simp
              case refine_18 =>
                intro hrun a' w9 hS h0 hd
                have e73 : a'.tmps[73]?.getD undef = .bool false := vev (hd 16 List.mem_cons_self)
                refine Does2.value (.bool false) (w' := w9) ?_ ⟨rfl, hS, Below.refl _ _⟩
                clear hS h0 hd hrun
                go_simp
              case refine_19 =>
                intro hrun a' w9 hS h0 hd
                exact absurd hrun (by decide)
              case refine_20 =>
                intro hrun a' w9 hS h0 hd
                exact absurd hrun (by decide)
              case refine_21 =>
                intro hrun a' w9 hS h0 hd
                exact absurd hrun (by decide)
              case refine_22 =>
                intro hrun a' w9 hS h0 hd
                exact absurd hrun (by decide)
              case refine_23 =>
                intro hrun a' w9 hS h0 hd
                exact absurd hrun (by decide)
              case refine_24 =>
                intro hrun a' w9 hS h0 hd
                exact absurd hrun (by decide)
              case refine_25 =>
                intro hrun a' w9 hS h0 hd
                exact absurd hrun (by decide)
              case refine_26 =>
                intro hrun a' w9 hS h0 hd
                have e74 : a'.tmps[74]?.getD undef = .bool false := vev (hd 17 List.mem_cons_self)
                have e81 : a'.tmps[81]?.getD undef = undef := vev (hd 24 (List.mem_cons_of_mem _ List.mem_cons_self))
                refine Does2.value (.bool false) (w' := w9) ?_ ⟨rfl, hS, Below.refl _ _⟩
                clear hS h0 hd hrun
                go_simp
              case refine_27 =>
                intro hrun a' w9 hS h0 hd
                have e71 : a'.tmps[71]?.getD undef = .bool false := vev (hd 14 List.mem_cons_self)
                have e82 : a'.tmps[82]?.getD undef = .bool false := vev (hd 25 (List.mem_cons_of_mem _ List.mem_cons_self))
                refine Does2.value (.bool false) (w' := w9) ?_ ⟨rfl, hS, Below.refl _ _⟩
                clear hS h0 hd hrun
                go_simp
              case hend =>
                intro f wE hS hv
                have v83 := hv 26 (by decide)
                replace v83 : f 83 = .bool false := v83
                simp only [putAll, Act.put, List.setIfInBounds_toArray, List.set_cons_zero, List.set_cons_succ, v83]
                have BB := Lib.hid (BB.out.trans (hS.mono BB.out.size))
                have SM := Lib.hid (SM.out.below hS)
                have SL := Lib.hid (SL.out.below hS)
                have SSA := Lib.hid (SSA.out.below hS)
                have QQA := Lib.hid (QQA.out.below hS)
                have SSB := Lib.hid (SSB.out.below hS)
                have QQB := Lib.hid (QQB.out.below hS)
                have TT := Lib.hid (TT.out.below hS)
                have VM := Lib.hid (VM.out.below hS VM.out.lt)
                have VA := Lib.hid (VA.out.below hS VA.out.lt)
                have VB := Lib.hid (VB.out.below hS VB.out.lt)
                clear hS hv v83
                obtain ⟨TT0, TT1⟩ := TT.out
                obtain ⟨VM0, VM1, VM2, VM3, -⟩ := VM.out.cells
                obtain ⟨VA0, VA1, VA2, VA3, -⟩ := VA.out.cells
                obtain ⟨VB0, VB1, VB2, VB3, -⟩ := VB.out.cells
                go_wp2_with fail
                go_ret
                exact ⟨rfl, BB.out⟩
        · have zA' : (eA == 0) = false := by simpa using zA
          clear zA
          by_cases zB : eB = 0
          · subst zB
            have FB3 := Lib.hid (FB1.out rfl)
            obtain ⟨TT0, TT1⟩ := TT.out
            obtain ⟨VM0, VM1, VM2, VM3, -⟩ := VM.out.cells
            obtain ⟨VA0, VA1, VA2, VA3, -⟩ := VA.out.cells
            obtain ⟨VB0, VB1, VB2, VB3, -⟩ := VB.out.cells
            go_wp2_with fail
            clear TT0 TT1 VM0 VM1 VM2 VM3 VA0 VA1 VA2 VA3 VB0 VB1 VB2 VB3
            refine wp_region_each4 (adnmyV g x ex left a n c xA lA aA nA cA xB lB aB nB cB eA 0 bx mw) (fun W => Below w108.heap.size w108 W) (fun _ A B => Below A.heap.size A B) adnmyD adnmyN [57, 58, 59, 60, 61, 62, 63, 64, 65, 66, 67, 68, 69, 70, 71, 72, 73, 74, 75, 76, 77, 78, 79, 80, 81, 82, 83] (by kernel_rfl) (by kernel_rfl) (by kernel_rfl) (Below.refl _ w108).drew
              (fun i j oi oj v us A B hoi hoj hij hw hSA hr hv => adnmy_st _ _ _ _ _ _ _ _ _ _ _ _ _ _ _ _ _ _ _ _ _ hr hv) ?hgd ?hng ?hsk
              ⟨?_, ?_, ?_, ?_, ?_, ?_, ?_, ?_, ?_, ?_, ?_, ?_, ?_, ?_, ?_, ?_, ?_, ?_, ?_, ?_, ?_, ?_, ?_, ?_, ?_, ?_, ?_, trivial⟩ ?hend
            case hgd =>
              intro i o g b hoi hog v us w hv
              have hi : i < 27 := (Array.getElem?_eq_some_iff.1 hoi).1
              have hc : i = 0 ∨ i = 1 ∨ i = 2 ∨ i = 3 ∨ i = 4 ∨ i = 5 ∨ i = 6 ∨ i = 7 ∨ i = 8 ∨ i = 9 ∨ i = 10 ∨ i = 11 ∨ i = 12 ∨ i = 13 ∨ i = 14 ∨ i = 15 ∨ i = 16 ∨ i = 17 ∨ i = 18 ∨ i = 19 ∨ i = 20 ∨ i = 21 ∨ i = 22 ∨ i = 23 ∨ i = 24 ∨ i = 25 ∨ i = 26 := by omega
              rcases hc with rfl | rfl | rfl | rfl | rfl | rfl | rfl | rfl | rfl | rfl | rfl | rfl | rfl | rfl | rfl | rfl | rfl | rfl | rfl | rfl | rfl | rfl | rfl | rfl | rfl | rfl | rfl
              · cases hoi; cases hog
              · cases hoi; cases hog
              · cases hoi; cases hog
              · cases hoi; cases hog
                show v ≠ _
                rw [show v = _ from hv]
                intro e; cases e
              · cases hoi; cases hog
                show v ≠ _
                rw [show v = _ from hv]
                intro e; cases e
              · cases hoi; cases hog
                show v ≠ _
                rw [show v = _ from hv]
                intro e; cases e
              · cases hoi; cases hog
                show v ≠ _
                rw [show v = _ from hv]
                intro e; cases e
              · cases hoi; cases hog
                show v ≠ _
                rw [show v = _ from hv]
                intro e; cases e
              · cases hoi; cases hog
                show v ≠ _
                rw [show v = _ from hv]
                intro e; cases e
              · cases hoi; cases hog
                show v ≠ _
                rw [show v = _ from hv]
                intro e; cases e
              · cases hoi; cases hog
                show v ≠ _
                rw [show v = _ from hv]
                intro e; cases e
              · cases hoi; cases hog
                show v ≠ _
                rw [show v = _ from hv]
                intro e; cases e
              · cases hoi; cases hog
                show v ≠ _
                rw [show v = _ from hv]
                intro e; cases e
              · cases hoi; cases hog
              · cases hoi; cases hog
              · cases hoi; cases hog; exact hv
              · cases hoi; cases hog; exact hv
              · cases hoi; cases hog; exact hv
              · cases hoi; cases hog; exact hv
              · cases hoi; cases hog; exact hv
              · cases hoi; cases hog; exact hv
              · cases hoi; cases hog; exact hv
              · cases hoi; cases hog; exact hv
              · cases hoi; cases hog; exact hv
              · cases hoi; cases hog; exact hv
              · cases hoi; cases hog; exact hv
              · cases hoi; cases hog
            case hng =>
              intro i o hoi hr
              have hi : i < 27 := (Array.getElem?_eq_some_iff.1 hoi).1
              have hc : i = 0 ∨ i = 1 ∨ i = 2 ∨ i = 3 ∨ i = 4 ∨ i = 5 ∨ i = 6 ∨ i = 7 ∨ i = 8 ∨ i = 9 ∨ i = 10 ∨ i = 11 ∨ i = 12 ∨ i = 13 ∨ i = 14 ∨ i = 15 ∨ i = 16 ∨ i = 17 ∨ i = 18 ∨ i = 19 ∨ i = 20 ∨ i = 21 ∨ i = 22 ∨ i = 23 ∨ i = 24 ∨ i = 25 ∨ i = 26 := by omega
              rcases hc with rfl | rfl | rfl | rfl | rfl | rfl | rfl | rfl | rfl | rfl | rfl | rfl | rfl | rfl | rfl | rfl | rfl | rfl | rfl | rfl | rfl | rfl | rfl | rfl | rfl | rfl | rfl
              · exact absurd hr (by decide)
              · exact absurd hr (by decide)
              · exact absurd hr (by decide)
              · cases hoi; exact ⟨_, _, rfl⟩
              · cases hoi; exact ⟨_, _, rfl⟩
              · cases hoi; exact ⟨_, _, rfl⟩
              · cases hoi; exact ⟨_, _, rfl⟩
              · cases hoi; exact ⟨_, _, rfl⟩
              · cases hoi; exact ⟨_, _, rfl⟩
              · cases hoi; exact ⟨_, _, rfl⟩
              · cases hoi; exact ⟨_, _, rfl⟩
              · cases hoi; exact ⟨_, _, rfl⟩
              · cases hoi; exact ⟨_, _, rfl⟩
              · exact absurd hr (by decide)
              · exact absurd hr (by decide)
              · exact absurd hr (by decide)
              · exact absurd hr (by decide)
              · exact absurd hr (by decide)
              · exact absurd hr (by decide)
              · exact absurd hr (by decide)
              · exact absurd hr (by decide)
              · exact absurd hr (by decide)
              · exact absurd hr (by decide)
              · exact absurd hr (by decide)
              · exact absurd hr (by decide)
              · exact absurd hr (by decide)
              · exact absurd hr (by decide)
            case hsk =>
              intro i us w hr hS
              by_cases hi : i < 27
              · have hc : i = 0 ∨ i = 1 ∨ i = 2 ∨ i = 3 ∨ i = 4 ∨ i = 5 ∨ i = 6 ∨ i = 7 ∨ i = 8 ∨ i = 9 ∨ i = 10 ∨ i = 11 ∨ i = 12 ∨ i = 13 ∨ i = 14 ∨ i = 15 ∨ i = 16 ∨ i = 17 ∨ i = 18 ∨ i = 19 ∨ i = 20 ∨ i = 21 ∨ i = 22 ∨ i = 23 ∨ i = 24 ∨ i = 25 ∨ i = 26 := by omega
                rcases hc with rfl | rfl | rfl | rfl | rfl | rfl | rfl | rfl | rfl | rfl | rfl | rfl | rfl | rfl | rfl | rfl | rfl | rfl | rfl | rfl | rfl | rfl | rfl | rfl | rfl | rfl | rfl
                · exact absurd hr (by decide)
                · exact absurd hr (by decide)
                · exact absurd hr (by decide)
                · exact rfl
                · exact rfl
                · exact rfl
                · exact rfl
                · exact rfl
                · exact rfl
                · exact rfl
                · exact rfl
                · exact rfl
                · exact rfl
                · exact absurd hr (by decide)
                · exact absurd hr (by decide)
                · exact absurd hr (by decide)
                · exact absurd hr (by decide)
                · exact absurd hr (by decide)
                · exact absurd hr (by decide)
                · exact absurd hr (by decide)
                · exact absurd hr (by decide)
                · exact absurd hr (by decide)
                · exact absurd hr (by decide)
                · exact absurd hr (by decide)
                · exact absurd hr (by decide)
                · exact absurd hr (by decide)
                · exact absurd hr (by decide)
              · exact absurd hr (by rw [show adnmyN i = true from by unfold adnmyN; simp; omega]; decide)
            case refine_1 =>
              intro hrun a' w9 hS h0 hd
              have e10 : a'.tmps[10]?.getD undef = .int .i64 eA := vev (h0 10 (by kernel_rfl))
              refine Does2.value (.int .i64 eA) (w' := w9) ?_ ⟨rfl, hS, Below.refl _ _⟩
              clear hS h0 hd hrun
              go_simp
            case refine_2 =>
              intro hrun a' w9 hS h0 hd
              have e57 : a'.tmps[57]?.getD undef = .int .i64 eA := vev (hd 0 List.mem_cons_self)
              refine Does2.value (.bool false) (w' := w9) ?_ ⟨rfl, hS, Below.refl _ _⟩
              clear hS h0 hd hrun
              go_simp
            case refine_3 =>
              intro hrun a' w9 hS h0 hd
              have e58 : a'.tmps[58]?.getD undef = .bool false := vev (hd 1 List.mem_cons_self)
              refine Does2.value (.bool false) (w' := w9) ?_ ⟨rfl, hS, Below.refl _ _⟩
              clear hS h0 hd hrun
              go_simp
            case refine_4 =>
              intro hrun a' w9 hS h0 hd
              exact absurd hrun (by decide)
            case refine_5 =>
              intro hrun a' w9 hS h0 hd
              exact absurd hrun (by decide)
            case refine_6 =>
              intro hrun a' w9 hS h0 hd
              exact absurd hrun (by decide)
            case refine_7 =>
              intro hrun a' w9 hS h0 hd
              exact absurd hrun (by decide)
            case refine_8 =>
              intro hrun a' w9 hS h0 hd
              exact absurd hrun (by decide)
            case refine_9 =>
              intro hrun a' w9 hS h0 hd
              exact absurd hrun (by decide)
            case refine_10 =>
              intro hrun a' w9 hS h0 hd
              exact absurd hrun (by decide)
            case refine_11 =>
              intro hrun a' w9 hS h0 hd
              exact absurd hrun (by decide)
            case refine_12 =>
              intro hrun a' w9 hS h0 hd
              exact absurd hrun (by decide)
            case refine_13 =>
              intro hrun a' w9 hS h0 hd
              exact absurd hrun (by decide)
            case refine_14 =>
              intro hrun a' w9 hS h0 hd
              have e59 : a'.tmps[59]?.getD undef = .bool false := vev (hd 2 List.mem_cons_self)
              have e69 : a'.tmps[69]?.getD undef = undef := vev (hd 12 (List.mem_cons_of_mem _ List.mem_cons_self))
              refine Does2.value (.bool false) (w' := w9) ?_ ⟨rfl, hS, Below.refl _ _⟩
              clear hS h0 hd hrun
              go_simp
            case refine_15 =>
              intro hrun a' w9 hS h0 hd
              have e70 : a'.tmps[70]?.getD undef = .bool false := vev (hd 13 List.mem_cons_self)
              refine Does2.value (.bool false) (w' := w9) ?_ ⟨rfl, hS, Below.refl _ _⟩
              clear hS h0 hd hrun
              go_simp
            case refine_16 =>
              intro hrun a' w9 hS h0 hd
              have e13 : a'.tmps[13]?.getD undef = .int .i64 0 := vev (h0 13 (by kernel_rfl))
              refine Does2.value (.int .i64 0) (w' := w9) ?_ ⟨rfl, hS, Below.refl _ _⟩
              clear hS h0 hd hrun
              go_simp
            case refine_17 =>
              intro hrun a' w9 hS h0 hd
              have e72 : a'.tmps[72]?.getD undef = .int .i64 0 := vev (hd 15 List.mem_cons_self)
              refine Does2.value (.bool true) (w' := w9) ?_ ⟨rfl, hS, Below.refl _ _⟩
              clear hS h0 hd hrun
              go_simp
            case refine_18 =>
              intro hrun a' w9 hS h0 hd
              have e73 : a'.tmps[73]?.getD undef = .bool true := vev (hd 16 List.mem_cons_self)
              refine Does2.value (.bool true) (w' := w9) ?_ ⟨rfl, hS, Below.refl _ _⟩
              clear hS h0 hd hrun
              go_simp
            case refine_19 =>
              intro hrun a' w9 hS h0 hd
              have e11 : a'.tmps[11]?.getD undef = .pointer (some ⟨w106.heap.size, 0, none⟩) := vev (h0 11 (by kernel_rfl))
              obtain ⟨y0, y1, y2, y3, -⟩ := (VB.out.below hS VB.out.lt).cells
              refine Does2.value (.agg #[.int .u32 g, .bool xB, .int .i64 lB, .slice aB nB cB]) (w' := w9) ?_ ⟨rfl, hS, Below.refl _ _⟩
              clear hS h0 hd hrun
              go_simp
            case refine_20 =>
              intro hrun a' w9 hS h0 hd
              have e6 : a'.tmps[6]?.getD undef = .int .u32 x := vev (h0 6 (by kernel_rfl))
              refine Does2.value (.int .u32 x) (w' := w9) ?_ ⟨rfl, hS, Below.refl _ _⟩
              clear hS h0 hd hrun
              go_simp
            case refine_21 =>
              intro hrun a' w9 hS h0 hd
              have e75 : a'.tmps[75]?.getD undef = .agg #[.int .u32 g, .bool xB, .int .i64 lB, .slice aB nB cB] := vev (hd 18 List.mem_cons_self)
              have e76 : a'.tmps[76]?.getD undef = .int .u32 x := vev (hd 19 (List.mem_cons_of_mem _ List.mem_cons_self))
              refine Does2.call 32 #[.agg #[.int .u32 g, .bool xB, .int .i64 lB, .slice aB nB cB], .int .u32 x] (w' := w9) ?_ ((mWants g xB lB aB nB cB sB x w9 NNB.out (by have := HRB.out.2.1; rw [NNB.out] at this; omega) (SSB.out.below hS) HRB.out.inc HRB.out.nn).mono ?_)
              · clear hS h0 hd
                go_simp
              · rw [FB3.out]
                rintro e w8 ⟨rfl, hb⟩
                exact ⟨_, rfl, rfl, hS.trans (hb.mono hS.size), hb⟩
            case refine_22 =>
              intro hrun a' w9 hS h0 hd
              have e4 : a'.tmps[4]?.getD undef = .pointer (some ⟨w.heap.size + 2, 0, none⟩) := vev (h0 4 (by kernel_rfl))
              obtain ⟨y0, y1, y2, y3, -⟩ := (VM.out.below hS VM.out.lt).cells
              refine Does2.value (.agg #[.int .u32 g, .bool ex, .int .i64 left, .slice a n c]) (w' := w9) ?_ ⟨rfl, hS, Below.refl _ _⟩
              clear hS h0 hd hrun
              go_simp
            case refine_23 =>
              intro hrun a' w9 hS h0 hd
              have e6 : a'.tmps[6]?.getD undef = .int .u32 x := vev (h0 6 (by kernel_rfl))
              refine Does2.value (.int .u32 x) (w' := w9) ?_ ⟨rfl, hS, Below.refl _ _⟩
              clear hS h0 hd hrun
              go_simp
            case refine_24 =>
              intro hrun a' w9 hS h0 hd
              have e78 : a'.tmps[78]?.getD undef = .agg #[.int .u32 g, .bool ex, .int .i64 left, .slice a n c] := vev (hd 21 List.mem_cons_self)
              have e79 : a'.tmps[79]?.getD undef = .int .u32 x := vev (hd 22 (List.mem_cons_of_mem _ List.mem_cons_self))
              refine Does2.call 32 #[.agg #[.int .u32 g, .bool ex, .int .i64 left, .slice a n c], .int .u32 x] (w' := w9) ?_ ((mWants g ex left a n c s x w9 HX.out (by omega) (SM.out.below hS) OK.out.inc OK.out.nn).mono ?_)
              · clear hS h0 hd
                go_simp
              · rw [MW.out]
                rintro e w8 ⟨rfl, hb⟩
                exact ⟨_, rfl, rfl, hS.trans (hb.mono hS.size), hb⟩
            case refine_25 =>
              intro hrun a' w9 hS h0 hd
              have e77 : a'.tmps[77]?.getD undef = .bool mw := vev (hd 20 List.mem_cons_self)
              have e80 : a'.tmps[80]?.getD undef = .bool mw := vev (hd 23 (List.mem_cons_of_mem _ List.mem_cons_self))
              refine Does2.value (.bool false) (w' := w9) ?_ ⟨rfl, hS, Below.refl _ _⟩
              clear hS h0 hd hrun
              go_simp
            case refine_26 =>
              intro hrun a' w9 hS h0 hd
              have e74 : a'.tmps[74]?.getD undef = .bool true := vev (hd 17 List.mem_cons_self)
              have e81 : a'.tmps[81]?.getD undef = .bool false := vev (hd 24 (List.mem_cons_of_mem _ List.mem_cons_self))
              refine Does2.value (.bool false) (w' := w9) ?_ ⟨rfl, hS, Below.refl _ _⟩
              clear hS h0 hd hrun
              go_simp
            case refine_27 =>
              intro hrun a' w9 hS h0 hd
              have e71 : a'.tmps[71]?.getD undef = .bool false := vev (hd 14 List.mem_cons_self)
              have e82 : a'.tmps[82]?.getD undef = .bool false := vev (hd 25 (List.mem_cons_of_mem _ List.mem_cons_self))
              refine Does2.value (.bool false) (w' := w9) ?_ ⟨rfl, hS, Below.refl _ _⟩
              clear hS h0 hd hrun
              go_simp
            case hend =>
              intro f wE hS hv
              have v83 := hv 26 (by decide)
              replace v83 : f 83 = .bool false := v83
              simp only [putAll, Act.put, List.setIfInBounds_toArray, List.set_cons_zero, List.set_cons_succ, v83]
              have BB := Lib.hid (BB.out.trans (hS.mono BB.out.size))
              have SM := Lib.hid (SM.out.below hS)
              have SL := Lib.hid (SL.out.below hS)
              have SSA := Lib.hid (SSA.out.below hS)
              have QQA := Lib.hid (QQA.out.below hS)
              have SSB := Lib.hid (SSB.out.below hS)
              have QQB := Lib.hid (QQB.out.below hS)
              have TT := Lib.hid (TT.out.below hS)
              have VM := Lib.hid (VM.out.below hS VM.out.lt)
              have VA := Lib.hid (VA.out.below hS VA.out.lt)
              have VB := Lib.hid (VB.out.below hS VB.out.lt)
              clear hS hv v83
              cases bx
              · obtain ⟨TT0, TT1⟩ := TT.out
                obtain ⟨VM0, VM1, VM2, VM3, -⟩ := VM.out.cells
                obtain ⟨VA0, VA1, VA2, VA3, -⟩ := VA.out.cells
                obtain ⟨VB0, VB1, VB2, VB3, -⟩ := VB.out.cells
                go_wp2_with fail
                go_ret
                exact ⟨rfl, BB.out⟩
              · obtain ⟨TT0, TT1⟩ := TT.out
                obtain ⟨VM0, VM1, VM2, VM3, -⟩ := VM.out.cells
                obtain ⟨VA0, VA1, VA2, VA3, -⟩ := VA.out.cells
                obtain ⟨VB0, VB1, VB2, VB3, -⟩ := VB.out.cells
                go_wp2_with fail
                refine (mTick g xB lB aB nB cB sB la _ NNB.out (by have := HRB.out.2.1; rw [NNB.out] at this; omega) SSB.out (fun y hy => by have := (HRB.out.lb.weak (lo_nn _)) y hy; omega) (by have := HRB.out.left; omega) (by have := TB.out; omega)).mono ?_
                rintro e w109 ⟨⟨aD, cD, rfl, hD⟩, hb⟩
                clear TT0 TT1 VM0 VM1 VM2 VM3 VA0 VA1 VA2 VA3 VB0 VB1 VB2 VB3
                have BB := Lib.hid (BB.out.trans (hb.mono BB.out.size))
                have SM := Lib.hid (SM.out.below hb)
                have SL := Lib.hid (SL.out.below hb)
                have SSA := Lib.hid (SSA.out.below hb)
                have QQA := Lib.hid (QQA.out.below hb)
                have SSB := Lib.hid (SSB.out.below hb)
                have QQB := Lib.hid (QQB.out.below hb)
                have TT := Lib.hid (TT.out.below hb)
                have VM := Lib.hid (VM.out.below hb VM.out.lt)
                have VA := Lib.hid (VA.out.below hb VA.out.lt)
                have VB := Lib.hid (VB.out.below hb VB.out.lt)
                clear hb
                have hmx : max la 0 = la := by have := TB.out; omega
                rw [hmx] at hD ⊢
                have HRD := Lib.hid (tick_ok HRB.out (show 0 ≤ la by have := TB.out; omega))
                have SSD := Lib.hid hD.1
                clear hD hmx
                have FD1 := Lib.hid (FB2.out (by trivial) (of_decide_eq_true BX.out))
                obtain ⟨TT0, TT1⟩ := TT.out
                obtain ⟨VM0, VM1, VM2, VM3, -⟩ := VM.out.cells
                obtain ⟨VA0, VA1, VA2, VA3, -⟩ := VA.out.cells
                obtain ⟨VB0, VB1, VB2, VB3, -⟩ := VB.out.cells
                go_wp2_with fail
                refine (mWants g _ _ aD _ cD _ x _ rfl (by have := HRD.out.2.1; omega) SSD.out HRD.out.inc HRD.out.nn).mono ?_
                rintro e w110 ⟨rfl, hb⟩
                clear TT0 TT1 VM0 VM1 VM2 VM3 VA0 VA1 VA2 VA3 VB0 VB1 VB2 VB3
                have BB := Lib.hid (BB.out.trans (hb.mono BB.out.size))
                have SM := Lib.hid (SM.out.below hb)
                have SL := Lib.hid (SL.out.below hb)
                have SSA := Lib.hid (SSA.out.below hb)
                have QQA := Lib.hid (QQA.out.below hb)
                have SSB := Lib.hid (SSB.out.below hb)
                have QQB := Lib.hid (QQB.out.below hb)
                have SSD := Lib.hid (SSD.out.below hb)
                have TT := Lib.hid (TT.out.below hb)
                have VM := Lib.hid (VM.out.below hb VM.out.lt)
                have VA := Lib.hid (VA.out.below hb VA.out.lt)
                have VB := Lib.hid (VB.out.below hb VB.out.lt)
                clear hb
                rw [FD1.out]
                obtain ⟨TT0, TT1⟩ := TT.out
                obtain ⟨VM0, VM1, VM2, VM3, -⟩ := VM.out.cells
                obtain ⟨VA0, VA1, VA2, VA3, -⟩ := VA.out.cells
                obtain ⟨VB0, VB1, VB2, VB3, -⟩ := VB.out.cells
                go_wp2_with fail
                go_ret
                exact ⟨rfl, BB.out⟩
          · have zB' : (eB == 0) = false := by simpa using zB
            have zB2 : (eB != 0) = true := by simpa using zB
            clear zB
            obtain ⟨TT0, TT1⟩ := TT.out
            obtain ⟨VM0, VM1, VM2, VM3, -⟩ := VM.out.cells
            obtain ⟨VA0, VA1, VA2, VA3, -⟩ := VA.out.cells
            obtain ⟨VB0, VB1, VB2, VB3, -⟩ := VB.out.cells
            go_wp2_with fail
            clear TT0 TT1 VM0 VM1 VM2 VM3 VA0 VA1 VA2 VA3 VB0 VB1 VB2 VB3
            refine wp_region_each4 (adnmnV g x ex left a n c xA lA aA nA cA xB lB aB nB cB eA eB bx mw) (fun W => Below w108.heap.size w108 W) (fun _ A B => Below A.heap.size A B) adnmnD adnmnN [57, 58, 59, 60, 61, 62, 63, 64, 65, 66, 67, 68, 69, 70, 71, 72, 73, 74, 75, 76, 77, 78, 79, 80, 81, 82, 83] (by kernel_rfl) (by kernel_rfl) (by kernel_rfl) (Below.refl _ w108).drew
              (fun i j oi oj v us A B hoi hoj hij hw hSA hr hv => adnmn_st _ _ _ _ _ _ _ _ _ _ _ _ _ _ _ _ _ _ _ _ _ hr hv) ?hgd ?hng ?hsk
              ⟨?_, ?_, ?_, ?_, ?_, ?_, ?_, ?_, ?_, ?_, ?_, ?_, ?_, ?_, ?_, ?_, ?_, ?_, ?_, ?_, ?_, ?_, ?_, ?_, ?_, ?_, ?_, trivial⟩ ?hend
            case hgd =>
              intro i o g b hoi hog v us w hv
              have hi : i < 27 := (Array.getElem?_eq_some_iff.1 hoi).1
              have hc : i = 0 ∨ i = 1 ∨ i = 2 ∨ i = 3 ∨ i = 4 ∨ i = 5 ∨ i = 6 ∨ i = 7 ∨ i = 8 ∨ i = 9 ∨ i = 10 ∨ i = 11 ∨ i = 12 ∨ i = 13 ∨ i = 14 ∨ i = 15 ∨ i = 16 ∨ i = 17 ∨ i = 18 ∨ i = 19 ∨ i = 20 ∨ i = 21 ∨ i = 22 ∨ i = 23 ∨ i = 24 ∨ i = 25 ∨ i = 26 := by omega
              rcases hc with rfl | rfl | rfl | rfl | rfl | rfl | rfl | rfl | rfl | rfl | rfl | rfl | rfl | rfl | rfl | rfl | rfl | rfl | rfl | rfl | rfl | rfl | rfl | rfl | rfl | rfl | rfl
              · cases hoi; cases hog
              · cases hoi; cases hog
              · cases hoi; cases hog
              · cases hoi; cases hog
                show v ≠ _
                rw [show v = _ from hv]
                intro e; cases e
              · cases hoi; cases hog
                show v ≠ _
                rw [show v = _ from hv]
                intro e; cases e
              · cases hoi; cases hog
                show v ≠ _
                rw [show v = _ from hv]
                intro e; cases e
              · cases hoi; cases hog
                show v ≠ _
                rw [show v = _ from hv]
                intro e; cases e
              · cases hoi; cases hog
                show v ≠ _
                rw [show v = _ from hv]
                intro e; cases e
              · cases hoi; cases hog
                show v ≠ _
                rw [show v = _ from hv]
                intro e; cases e
              · cases hoi; cases hog
                show v ≠ _
                rw [show v = _ from hv]
                intro e; cases e
              · cases hoi; cases hog
                show v ≠ _
                rw [show v = _ from hv]
                intro e; cases e
              · cases hoi; cases hog
                show v ≠ _
                rw [show v = _ from hv]
                intro e; cases e
              · cases hoi; cases hog
                show v ≠ _
                rw [show v = _ from hv]
                intro e; cases e
              · cases hoi; cases hog
              · cases hoi; cases hog
              · cases hoi; cases hog; exact hv
              · cases hoi; cases hog; exact hv
              · cases hoi; cases hog; exact hv
              · cases hoi; cases hog
                show v ≠ _
                rw [show v = _ from hv]
                intro e; cases e
              · cases hoi; cases hog
                show v ≠ _
                rw [show v = _ from hv]
                intro e; cases e
              · cases hoi; cases hog
                show v ≠ _
                rw [show v = _ from hv]
                intro e; cases e
              · cases hoi; cases hog
                show v ≠ _
                rw [show v = _ from hv]
                intro e; cases e
              · cases hoi; cases hog
                show v ≠ _
                rw [show v = _ from hv]
                intro e; cases e
              · cases hoi; cases hog
                show v ≠ _
                rw [show v = _ from hv]
                intro e; cases e
              · cases hoi; cases hog
                show v ≠ _
                rw [show v = _ from hv]
                intro e; cases e
              · cases hoi; cases hog; exact hv
              · cases hoi; cases hog
            case hng =>
              intro i o hoi hr
              have hi : i < 27 := (Array.getElem?_eq_some_iff.1 hoi).1
              have hc : i = 0 ∨ i = 1 ∨ i = 2 ∨ i = 3 ∨ i = 4 ∨ i = 5 ∨ i = 6 ∨ i = 7 ∨ i = 8 ∨ i = 9 ∨ i = 10 ∨ i = 11 ∨ i = 12 ∨ i = 13 ∨ i = 14 ∨ i = 15 ∨ i = 16 ∨ i = 17 ∨ i = 18 ∨ i = 19 ∨ i = 20 ∨ i = 21 ∨ i = 22 ∨ i = 23 ∨ i = 24 ∨ i = 25 ∨ i = 26 := by omega
              rcases hc with rfl | rfl | rfl | rfl | rfl | rfl | rfl | rfl | rfl | rfl | rfl | rfl | rfl | rfl | rfl | rfl | rfl | rfl | rfl | rfl | rfl | rfl | rfl | rfl | rfl | rfl | rfl
              · exact absurd hr (by decide)
              · exact absurd hr (by decide)
              · exact absurd hr (by decide)
              · cases hoi; exact ⟨_, _, rfl⟩
              · cases hoi; exact ⟨_, _, rfl⟩
              · cases hoi; exact ⟨_, _, rfl⟩
              · cases hoi; exact ⟨_, _, rfl⟩
              · cases hoi; exact ⟨_, _, rfl⟩
              · cases hoi; exact ⟨_, _, rfl⟩
              · cases hoi; exact ⟨_, _, rfl⟩
              · cases hoi; exact ⟨_, _, rfl⟩
              · cases hoi; exact ⟨_, _, rfl⟩
              · cases hoi; exact ⟨_, _, rfl⟩
              · exact absurd hr (by decide)
              · exact absurd hr (by decide)
              · exact absurd hr (by decide)
              · exact absurd hr (by decide)
              · exact absurd hr (by decide)
              · cases hoi; exact ⟨_, _, rfl⟩
              · cases hoi; exact ⟨_, _, rfl⟩
              · cases hoi; exact ⟨_, _, rfl⟩
              · cases hoi; exact ⟨_, _, rfl⟩
              · cases hoi; exact ⟨_, _, rfl⟩
              · cases hoi; exact ⟨_, _, rfl⟩
              · cases hoi; exact ⟨_, _, rfl⟩
              · exact absurd hr (by decide)
              · exact absurd hr (by decide)
            case hsk =>
              intro i us w hr hS
              by_cases hi : i < 27
              · have hc : i = 0 ∨ i = 1 ∨ i = 2 ∨ i = 3 ∨ i = 4 ∨ i = 5 ∨ i = 6 ∨ i = 7 ∨ i = 8 ∨ i = 9 ∨ i = 10 ∨ i = 11 ∨ i = 12 ∨ i = 13 ∨ i = 14 ∨ i = 15 ∨ i = 16 ∨ i = 17 ∨ i = 18 ∨ i = 19 ∨ i = 20 ∨ i = 21 ∨ i = 22 ∨ i = 23 ∨ i = 24 ∨ i = 25 ∨ i = 26 := by omega
                rcases hc with rfl | rfl | rfl | rfl | rfl | rfl | rfl | rfl | rfl | rfl | rfl | rfl | rfl | rfl | rfl | rfl | rfl | rfl | rfl | rfl | rfl | rfl | rfl | rfl | rfl | rfl | rfl
                · exact absurd hr (by decide)
                · exact absurd hr (by decide)
                · exact absurd hr (by decide)
                · exact rfl
                · exact rfl
                · exact rfl
                · exact rfl
                · exact rfl
                · exact rfl
                · exact rfl
                · exact rfl
                · exact rfl
                · exact rfl
                · exact absurd hr (by decide)
                · exact absurd hr (by decide)
                · exact absurd hr (by decide)
                · exact absurd hr (by decide)
                · exact absurd hr (by decide)
                · exact rfl
                · exact rfl
                · exact rfl
                · exact rfl
                · exact rfl
                · exact rfl
                · exact rfl
                · exact absurd hr (by decide)
                · exact absurd hr (by decide)
              · exact absurd hr (by rw [show adnmnN i = true from by unfold adnmnN; simp; omega]; decide)
            case refine_1 =>
              intro hrun a' w9 hS h0 hd
              have e10 : a'.tmps[10]?.getD undef = .int .i64 eA := vev (h0 10 (by kernel_rfl))
              refine Does2.value (.int .i64 eA) (w' := w9) ?_ ⟨rfl, hS, Below.refl _ _⟩
              clear hS h0 hd hrun
              go_simp
            case refine_2 =>
              intro hrun a' w9 hS h0 hd
              have e57 : a'.tmps[57]?.getD undef = .int .i64 eA := vev (hd 0 List.mem_cons_self)
              refine Does2.value (.bool false) (w' := w9) ?_ ⟨rfl, hS, Below.refl _ _⟩
              clear hS h0 hd hrun
              go_simp
            case refine_3 =>
              intro hrun a' w9 hS h0 hd
              have e58 : a'.tmps[58]?.getD undef = .bool false := vev (hd 1 List.mem_cons_self)
              refine Does2.value (.bool false) (w' := w9) ?_ ⟨rfl, hS, Below.refl _ _⟩
              clear hS h0 hd hrun
              go_simp
            case refine_4 =>
              intro hrun a' w9 hS h0 hd
              exact absurd hrun (by decide)
            case refine_5 =>
              intro hrun a' w9 hS h0 hd
              exact absurd hrun (by decide)
            case refine_6 =>
              intro hrun a' w9 hS h0 hd
              exact absurd hrun (by decide)
            case refine_7 =>
              intro hrun a' w9 hS h0 hd
              exact absurd hrun (by decide)
            case refine_8 =>
              intro hrun a' w9 hS h0 hd
              exact absurd hrun (by decide)
            case refine_9 =>
              intro hrun a' w9 hS h0 hd
              exact absurd hrun (by decide)
            case refine_10 =>
              intro hrun a' w9 hS h0 hd
              exact absurd hrun (by decide)
            case refine_11 =>
              intro hrun a' w9 hS h0 hd
              exact absurd hrun (by decide)
            case refine_12 =>
              intro hrun a' w9 hS h0 hd
              exact absurd hrun (by decide)
            case refine_13 =>
              intro hrun a' w9 hS h0 hd
              exact absurd hrun (by decide)
            case refine_14 =>
              intro hrun a' w9 hS h0 hd
              have e59 : a'.tmps[59]?.getD undef = .bool false := vev (hd 2 List.mem_cons_self)
              have e69 : a'.tmps[69]?.getD undef = undef := vev (hd 12 (List.mem_cons_of_mem _ List.mem_cons_self))
              refine Does2.value (.bool false) (w' := w9) ?_ ⟨rfl, hS, Below.refl _ _⟩
              clear hS h0 hd hrun
              go_simp
            case refine_15 =>
              intro hrun a' w9 hS h0 hd
              have e70 : a'.tmps[70]?.getD undef = .bool false := vev (hd 13 List.mem_cons_self)
              refine Does2.value (.bool false) (w' := w9) ?_ ⟨rfl, hS, Below.refl _ _⟩
              clear hS h0 hd hrun
              go_simp
            case refine_16 =>
              intro hrun a' w9 hS h0 hd
              have e13 : a'.tmps[13]?.getD undef = .int .i64 eB := vev (h0 13 (by kernel_rfl))
              refine Does2.value (.int .i64 eB) (w' := w9) ?_ ⟨rfl, hS, Below.refl _ _⟩
              clear hS h0 hd hrun
              go_simp
            case refine_17 =>
              intro hrun a' w9 hS h0 hd
              have e72 : a'.tmps[72]?.getD undef = .int .i64 eB := vev (hd 15 List.mem_cons_self)
              refine Does2.value (.bool false) (w' := w9) ?_ ⟨rfl, hS, Below.refl _ _⟩
              clear hS h0 hd hrun
              go_simp
            case refine_18 =>
              intro hrun a' w9 hS h0 hd
              have e73 : a'.tmps[73]?.getD undef = .bool false := vev (hd 16 List.mem_cons_self)
              refine Does2.value (.bool false) (w' := w9) ?_ ⟨rfl, hS, Below.refl _ _⟩
              clear hS h0 hd hrun
              go_simp
            case refine_19 =>
              intro hrun a' w9 hS h0 hd
              exact absurd hrun (by decide)
            case refine_20 =>
              intro hrun a' w9 hS h0 hd
              exact absurd hrun (by decide)
            case refine_21 =>
              intro hrun a' w9 hS h0 hd
              exact absurd hrun (by decide)
            case refine_22 =>
              intro hrun a' w9 hS h0 hd
              exact absurd hrun (by decide)
            case refine_23 =>
              intro hrun a' w9 hS h0 hd
              exact absurd hrun (by decide)
            case refine_24 =>
              intro hrun a' w9 hS h0 hd
              exact absurd hrun (by decide)
            case refine_25 =>
              intro hrun a' w9 hS h0 hd
              exact absurd hrun (by decide)
            case refine_26 =>
              intro hrun a' w9 hS h0 hd
              have e74 : a'.tmps[74]?.getD undef = .bool false := vev (hd 17 List.mem_cons_self)
              have e81 : a'.tmps[81]?.getD undef = undef := vev (hd 24 (List.mem_cons_of_mem _ List.mem_cons_self))
              refine Does2.value (.bool false) (w' := w9) ?_ ⟨rfl, hS, Below.refl _ _⟩
              clear hS h0 hd hrun
              go_simp
            case refine_27 =>
              intro hrun a' w9 hS h0 hd
              have e71 : a'.tmps[71]?.getD undef = .bool false := vev (hd 14 List.mem_cons_self)
              have e82 : a'.tmps[82]?.getD undef = .bool false := vev (hd 25 (List.mem_cons_of_mem _ List.mem_cons_self))
              refine Does2.value (.bool false) (w' := w9) ?_ ⟨rfl, hS, Below.refl _ _⟩
              clear hS h0 hd hrun
              go_simp
            case hend =>
              intro f wE hS hv
              have v83 := hv 26 (by decide)
              replace v83 : f 83 = .bool false := v83
              simp only [putAll, Act.put, List.setIfInBounds_toArray, List.set_cons_zero, List.set_cons_succ, v83]
              have BB := Lib.hid (BB.out.trans (hS.mono BB.out.size))
              have SM := Lib.hid (SM.out.below hS)
              have SL := Lib.hid (SL.out.below hS)
              have SSA := Lib.hid (SSA.out.below hS)
              have QQA := Lib.hid (QQA.out.below hS)
              have SSB := Lib.hid (SSB.out.below hS)
              have QQB := Lib.hid (QQB.out.below hS)
              have TT := Lib.hid (TT.out.below hS)
              have VM := Lib.hid (VM.out.below hS VM.out.lt)
              have VA := Lib.hid (VA.out.below hS VA.out.lt)
              have VB := Lib.hid (VB.out.below hS VB.out.lt)
              clear hS hv v83
              obtain ⟨TT0, TT1⟩ := TT.out
              obtain ⟨VM0, VM1, VM2, VM3, -⟩ := VM.out.cells
              obtain ⟨VA0, VA1, VA2, VA3, -⟩ := VA.out.cells
              obtain ⟨VB0, VB1, VB2, VB3, -⟩ := VB.out.cells
              go_wp2_with fail
              go_ret
              exact ⟨rfl, BB.out⟩
      · have q3' : (200 : Int) < (ln : Int) := by omega
        clear q3
        obtain ⟨TT0, TT1⟩ := TT.out
        obtain ⟨VM0, VM1, VM2, VM3, -⟩ := VM.out.cells
        go_wp2_with fail
        go_ret
        exact ⟨rfl, BB.out⟩
    · rw [decide_eq_false q2]
      clear q2
      obtain ⟨TT0, TT1⟩ := TT.out
      obtain ⟨VM0, VM1, VM2, VM3, -⟩ := VM.out.cells
      go_wp2_with fail
      go_ret
      exact ⟨rfl, BB.out⟩
  · rw [decide_eq_false q1]
    clear q1
    obtain ⟨TT0, TT1⟩ := TT.out
    obtain ⟨VM0, VM1, VM2, VM3, -⟩ := VM.out.cells
    go_wp2_with fail
    go_ret
    exact ⟨rfl, BB.out⟩

set_option maxRecDepth 100000 in
theorem contract (H : Type) (enc : TypeId × Value → H) (W : World) (base : Nat) (args : Array Value) (ds gs : List (DataW H)) (before : List MemPlace)
    (hval : ∀ (j : Nat) t v, Try.f6.params[j]? = some t → args[j]? = some v → Value.okWide Try.prog W .any base t v)
    (hW : DataW.Whole enc Try.prog Try.f6.params.toList Rows.membAddsSpec.vars false W args.toList ds gs before) (hsz : (DataW.weightsEach Try.prog (Try.f6.params.toList ++ Rows.membAddsSpec.plain.varTypes Try.prog) (ds ++ gs)).all (· ≤ reachBytes) = true) :
    Calls Try.prog 6 args W fun e W' => ∃ v, e = .returned v ∧ Rows.membAddsSpec.post enc Try.prog Try.f6 false true false false W args v W' := by
  have hW' := hW
  obtain ⟨p, q, hA0, hV, rfl, hfz, hnd⟩ := hW
  have hA : DataW.TrodAll enc Try.prog W 0 (fun _ => true) true Try.f6.params.toList args.toList ds p := hA0
  rw [Try.params6] at hA hval
  obtain ⟨v0, vs0, d0, ds0, p0, q0, hargs, rfl, rfl, h0, r0⟩ := trodAll_cons hA
  obtain ⟨rfl, rfl, rfl⟩ := trodAll_nil r0
  obtain rfl : args = #[v0] := by cases args; simp_all
  obtain ⟨rfl, rfl⟩ := trodVars_none hV
  have k0 := h0
  have lt0 : ∀ x ∈ p0, x.block < W.heap.size := by obtain ⟨m, hm⟩ := k0; exact DataW.trod_lt m _ _ _ hm
  obtain ⟨kq0, l0, g0, x0, f0, a0, c0, s0, b0, e0, t0, u0, rfl, q10, q20, q30, q40, q50, q60, q70⟩ := open_adds (hval 0 67 v0 rfl rfl) h0 (fun x hx => by simpa using List.all_eq_true.1 hsz _ (DataW.weights_mem_each (j := 0) rfl rfl x hx))
  clear hA0
  refine (walk W kq0 l0 g0 x0 f0 a0 c0 s0 b0 e0 t0 u0 q10 q20 q30 q40 q50 q60 q70).mono fun e W' ⟨he, bel⟩ => ?_
  subst he
  exact ⟨_, rfl, _, _, _, [], _, [], hW', trodAll_mk1 (shut_bool Try.underlying4 _), (trodAll_cons_mk (Below.trod laidOut (by kernel_rfl) (of_decide_eq_true (by kernel_rfl)) k0 bel lt0) trodAll_mk0), rfl, bel.frame _, fun h => by cases h⟩

set_option maxRecDepth 100000 in
theorem lifted (os : Os) (started : os.Started) (H : Type) (enc : TypeId × Value → H) :
    ReturnsInHanded {} Try.checked os 6 .any (Rows.membAddsSpec.pre6 enc Try.prog Try.f6 Rows.membAddsRow.domain false) (Rows.membAddsSpec.post enc Try.prog Try.f6 false true false false) := by
  refine returnsInHanded_of_change_sized (C := Try.checked) own started (by kernel_rfl) Try.func6
    (ChangeSpec.witness6 (enc := enc) (C := Try.checked) false ⟨#[], #[(.agg #[.int .i64 0, .int .i64 0, .int .u32 0, .bool false, .int .i64 0, .slice none 0 0, .slice none 0 0, .int .u32 0])], []⟩ 8 (by kernel_rfl) (by kernel_rfl) (by kernel_rfl) (by kernel_rfl)) ?_
  intro W base args ds gs before hval hW hcnd hsz _
  exact contract H enc W base args ds gs before hval hW hsz
theorem said : Rows.MembAddsSaid :=
  OpenClaim.holds_of_wide 6 Try.f6 rfl rfl rfl rfl rfl rfl rfl ⟨rfl, rfl, rfl, rfl, rfl⟩ rfl rfl rfl rfl rfl (by kernel_rfl) Try.func6 (by kernel_rfl)
    (of_decide_eq_true (by kernel_rfl)) (by unfold Func.isWrapper; first | (rw [if_pos (by decide +kernel)]; kernel_rfl) | (rw [if_neg (by decide +kernel)]; exact ⟨rfl, rfl⟩))
    (fun os started H enc _ => lifted os started H enc)
#print axioms said
end Go.Proofs.Ytllpmepmgnnoaaa.membAdds
