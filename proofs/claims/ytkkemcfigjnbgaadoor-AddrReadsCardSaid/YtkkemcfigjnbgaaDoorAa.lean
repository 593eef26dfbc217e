/- Contracts of package addr: numbers, bytes, texts. -/
import Derived.Test.YtkkemcfigjnbgaaDoorChecked
import Derived.Test.YtkkemcfigjnbgaaDoorShelf
import Derived.Test.YtkkemcfigjnbgaaDoorAp
import Derived.WalkKit
import Derived.WalkLawsBesides
import Derived.Outline
import Derived.OpenShut
import Derived.Lib.AppendIntMem
import Derived.Sort.Grow
import Derived.Lib.Hide
namespace Go.Proofs.YtkkemcfigjnbgaaDoor
set_option linter.unusedVariables false
open Go.RowKit

theorem bcat (x y : List UInt8) : (⟨x.toArray⟩ : ByteArray) ++ ⟨y.toArray⟩ = ⟨(x ++ y).toArray⟩ := by
  apply ByteArray.ext; simp
theorem bcat3 (x y : List UInt8) : (⟨x.toArray⟩ : ByteArray) ++ ((⟨#[46]⟩ : ByteArray) ++ ⟨y.toArray⟩) = ⟨(x ++ 46 :: y).toArray⟩ := by
  rw [show (⟨#[46]⟩ : ByteArray) = ⟨[46].toArray⟩ from rfl, bcat, bcat]; rfl
theorem ret_v {a b : Value} (h : a = b) : Ending.returned a = .returned b := by rw [h]

theorem aIsGroup (a : Int) (w : World) :
    Calls Tryd.prog 15 #[.int .u32 a] w fun e w' => e = .returned (.bool (decide (3758096384 ≤ a) && decide (a ≤ 4026531839))) ∧ w = w' := by
  go_enter Tryd.func15, Tryd.ntmps15
  by_cases h1 : 3758096384 ≤ a <;> by_cases h2 : a ≤ 4026531839
  all_goals
    go_wp2
    go_ret
    exact ⟨by simp [h1, h2], rfl⟩
theorem aIsLocal (a : Int) (w : World) :
    Calls Tryd.prog 17 #[.int .u32 a] w fun e w' => e = .returned (.bool (decide (3758096384 ≤ a) && decide (a ≤ 3758096639))) ∧ w = w' := by
  go_enter Tryd.func17, Tryd.ntmps17
  by_cases h1 : 3758096384 ≤ a <;> by_cases h2 : a ≤ 3758096639
  all_goals
    go_wp2
    go_ret
    exact ⟨by simp [h1, h2], rfl⟩
theorem aIsAsked (a : Int) (w : World) :
    Calls Tryd.prog 19 #[.int .u32 a] w fun e w' => e = .returned (.bool (decide (3758096640 ≤ a) && decide (a ≤ 4026531839))) ∧ w = w' := by
  go_enter Tryd.func19, Tryd.ntmps19
  by_cases h1 : 3758096384 ≤ a <;> by_cases h2 : a ≤ 4026531839 <;> by_cases h3 : a ≤ 3758096639
  all_goals
    go_wp2
    go_ret
    refine ⟨?_, rfl⟩
    have e1 : decide (3758096640 ≤ a) = decide (¬ a ≤ 3758096639) := by rw [decide_eq_decide]; omega
    first | (simp [h2, e1, h3]; done) | (simp; omega)
theorem aLess (a b : Int) (w : World) :
    Calls Tryd.prog 21 #[.int .u32 a, .int .u32 b] w fun e w' => e = .returned (.bool (decide (a < b))) ∧ w = w' := by
  go_enter Tryd.func21, Tryd.ntmps21
  go_wp2
  go_ret
  exact ⟨rfl, rfl⟩

set_option maxHeartbeats 400000 in
theorem aBytes (a : Int) (w : World) (h0 : 0 ≤ a) (h1 : a ≤ 4294967295) :
    Calls Tryd.prog 13 #[.int .u32 a] w fun e w' => e = .returned (.slice (some ⟨w.heap.size, 0, none⟩) 4 4) ∧
      w.alloc (.cells #[.int .u8 (a / 16777216), .int .u8 (a / 65536 % 256), .int .u8 (a / 256 % 256), .int .u8 (a % 256)] 5) = w' := by
  go_enter Tryd.func13, Tryd.ntmps13
  go_wp2
  go_ret
  exact ⟨rfl, rfl⟩

theorem bdrawn {B : Nat} {a w : World} (h : Below B a w) (n : Nat) : Below B a (w.drewN n) := h.trans ⟨rfl, rfl, rfl, Nat.le_refl _, fun _ _ => rfl⟩
theorem bgrow (w : World) (k : Nat) (os : Array Obj) : Below w.heap.size w (Go.Sort.grow (w.drewN k) os) :=
  ⟨rfl, rfl, rfl, by simp [Go.Sort.grow], fun k hk => by simp [Go.Sort.grow, Array.getElem?_append, hk]⟩

/-- A byte's digits. -/
theorem aItoa (n : Int) (w : World) (h0 : 0 ≤ n) (h1 : n ≤ 255) (htab : Lib.TabIs Tryd.prog w "internal/strconv.uint64pow10" .u64 Lib.pow10Tab) :
    Calls Tryd.prog 27 #[.int .i64 n] w fun e w' => e = .returned (.string ⟨(dd n).toArray⟩) ∧ Below w.heap.size w w' := by
  refine (Tryd.strconv_Itoa n (by omega) (by omega) w htab).mono ?_
  rintro e w' ⟨rfl, k, os, rfl⟩
  exact ⟨by rw [itoa_dd n h0 h1], bgrow _ _ _⟩

theorem aText1 (i : Int) (x : Int) (b c : Nat) (w : World) (hi : 0 ≤ i) (hi4 : i < 4) (h0 : 0 ≤ x) (h1 : x ≤ 255)
    (hv : w.cell? ⟨c, 0, none⟩ = some (.slice (some ⟨b, 0, none⟩) 4 4)) (hx : w.cell? ⟨b, i.toNat, none⟩ = some (.int .u8 x))
    (htab : Lib.TabIs Tryd.prog w "internal/strconv.uint64pow10" .u64 Lib.pow10Tab) :
    Calls Tryd.prog 26 #[.int .i64 i, .pointer (some ⟨c, 0, none⟩)] w fun e w' => e = .returned (.string ⟨(dd x).toArray⟩) ∧ Below w.heap.size w w' := by
  have HT := Lib.hid htab
  clear htab
  go_enter Tryd.func26, Tryd.ntmps26
  go_wp2_with (go_at_call 27; refine (aItoa x _ h0 h1 HT.out).mono ?_; rintro e w' ⟨rfl, hb⟩)
  go_ret
  exact ⟨rfl, hb⟩

/-- The four bytes, one by one; the text of the first k. -/
def byt (a : Int) : Nat → Int | 0 => a / 16777216 | 1 => a / 65536 % 256 | 2 => a / 256 % 256 | _ => a % 256
def pre (a : Int) (k : Nat) : List UInt8 := joinDot ((parts4 a).take k)
theorem byt_bd {a : Int} (h0 : 0 ≤ a) (h1 : a ≤ 4294967295) (k : Nat) : 0 ≤ byt a k ∧ byt a k ≤ 255 := by
  unfold byt; split <;> constructor <;> omega
theorem pre_one (a : Int) : pre a 1 = dd (byt a 0) := rfl
theorem pre_four (a : Int) : pre a 4 = txt a := rfl
theorem pre_succ (a : Int) (k : Nat) (h1 : 1 ≤ k) (h4 : k < 4) : pre a (k + 1) = pre a k ++ 46 :: dd (byt a k) := by
  match k, h1, h4 with
  | 1, _, _ => simp [pre, parts4, joinDot, byt]
  | 2, _, _ => simp [pre, parts4, joinDot, byt]
  | 3, _, _ => simp [pre, parts4, joinDot, byt]
theorem pre_len {a : Int} (h0 : 0 ≤ a) (h1 : a ≤ 4294967295) (k : Nat) (hk1 : 1 ≤ k) (hk : k ≤ 4) : (pre a k).length ≤ 15 := by
  have l := fun k => (dd_len (byt_bd h0 h1 k).1 (byt_bd h0 h1 k).2).2
  have p1 : (pre a 1).length ≤ 3 := l 0
  have p2 : (pre a 2).length ≤ 7 := by rw [pre_succ a 1 (by omega) (by omega)]; simp; have := l 1; omega
  have p3 : (pre a 3).length ≤ 11 := by rw [pre_succ a 2 (by omega) (by omega)]; simp; have := l 2; omega
  have p4 : (pre a 4).length ≤ 15 := by rw [pre_succ a 3 (by omega) (by omega)]; simp; have := l 3; omega
  match k, hk1, hk with
  | 1, _, _ => omega
  | 2, _, _ => omega
  | 3, _, _ => omega
  | 4, _, _ => omega

def bytes4 (a : Int) : Obj := .cells #[.int .u8 (a / 16777216), .int .u8 (a / 65536 % 256), .int .u8 (a / 256 % 256), .int .u8 (a % 256)] 5
theorem bytes4_cell (a : Int) (W : World) (k : Nat) (hk : k < 4) : (W.alloc (bytes4 a)).cell? ⟨W.heap.size, k, none⟩ = some (.int .u8 (byt a k)) := by
  rw [bytes4, World.cell?_alloc_new]
  match k, hk with
  | 0, _ => rfl
  | 1, _ => rfl
  | 2, _ => rfl
  | 3, _ => rfl

set_option maxHeartbeats 1000000 in
theorem aText (a : Int) (w : World) (h0 : 0 ≤ a) (h1 : a ≤ 4294967295) (htab : Lib.TabIs Tryd.prog w "internal/strconv.uint64pow10" .u64 Lib.pow10Tab) :
    Calls Tryd.prog 10 #[.int .u32 a] w fun e w' => e = .returned (.string ⟨(txt a).toArray⟩) ∧ Below w.heap.size w w' := by
  have HT := Lib.hid (Lib.tabBelow_of_tabIs htab)
  clear htab
  obtain ⟨W0, hW0⟩ : ∃ W0, W0 = (w.alloc (bytes4 a)).alloc (.cells #[.slice (some ⟨w.heap.size, 0, none⟩) 4 4] 27) := ⟨_, rfl⟩
  have hB0 : Below w.heap.size w W0 := by subst hW0; exact ((Below.refl _ _).alloc (Nat.le_refl _) _).alloc (by simp) _
  have hz0 : W0.heap.size = w.heap.size + 2 := by subst hW0; simp
  have hv0 : W0.cell? ⟨w.heap.size + 1, 0, none⟩ = some (.slice (some ⟨w.heap.size, 0, none⟩) 4 4) := by
    subst hW0
    simp
  have hx0 : ∀ k, k < 4 → W0.cell? ⟨w.heap.size, k, none⟩ = some (.int .u8 (byt a k)) := by
    intro k hk
    subst hW0
    rw [World.cell?_alloc_past _ _ _ (by simp)]
    exact bytes4_cell a w k hk
  have part : ∀ (k : Nat) (W : World), k < 4 → Below W0.heap.size W0 W →
      Calls Tryd.prog 26 #[.int .i64 k, .pointer (some ⟨w.heap.size + 1, 0, none⟩)] W fun e w' => e = .returned (.string ⟨(dd (byt a k)).toArray⟩) ∧ Below W0.heap.size W0 w' := by
    intro k W hk hb
    refine (aText1 k (byt a k) w.heap.size (w.heap.size + 1) W (by omega) (by omega) (byt_bd h0 h1 k).1 (byt_bd h0 h1 k).2 ?_ ?_ (HT.out W (hB0.trans (hb.mono hB0.size)))).mono ?_
    · rw [hb.cell (p := ⟨w.heap.size + 1, 0, none⟩) (by simp [hz0])]; exact hv0
    · rw [Int.toNat_natCast, hb.cell (p := ⟨w.heap.size, k, none⟩) (by simp [hz0])]; exact hx0 k hk
    · rintro e w' ⟨rfl, hb'⟩
      exact ⟨rfl, hb.trans (hb'.mono hb.size)⟩
  have PART := Lib.hid part
  have HB0 := Lib.hid hB0
  have hpl := pre_len h0 h1
  have PL := Lib.hid hpl
  have HW0 := Lib.hid hW0
  clear part hB0 hz0 hv0 hx0 hpl hW0
  go_enter Tryd.func10, Tryd.ntmps10
  go_wp2_with ((go_at_call 13; refine (aBytes a _ h0 h1).mono ?_; rintro e w' ⟨rfl, rfl⟩))
  have hp := PART.out 0 W0 (by omega) (Below.refl _ _)
  rw [HW0.out] at hp
  refine hp.mono ?_
  clear hp
  rintro e w1 ⟨rfl, hb⟩
  rw [← HW0.out] at hb
  go_wp2_with fail
  go_loopw [5, 6] (fun t i wr => ∃ k : Nat, 1 ≤ k ∧ k ≤ 4 ∧ i = .int .i64 k ∧ t = .string ⟨(pre a k).toArray⟩ ∧ Below W0.heap.size W0 wr) (fun _ i _ => 4 - (intOf i).toNat)
  case atStart => exact ⟨1, by omega, by omega, rfl, rfl, hb⟩
  case round =>
    obtain ⟨k, hk1, hk4, rfl, rfl, hbr⟩ := hrel
    by_cases hlt : k < 4
    · have l1 := PL.out k hk1 hk4
      have l2 := (dd_len (byt_bd h0 h1 k).1 (byt_bd h0 h1 k).2).2
      go_wp2_with (go_at_call 26; refine (PART.out k _ hlt hbr).mono ?_; rintro e w' ⟨rfl, hb2⟩)
      go_roundw
      case rel => exact ⟨k + 1, by omega, by omega, by go_num, by rw [pre_succ a k hk1 hlt]; exact congrArg Value.string (bcat3 _ _), hb2⟩
      case measure => simp [intOf]; omega
    · obtain rfl : k = 4 := by omega
      go_wp2_with fail
      go_ret
      exact ⟨rfl, HB0.out.trans (hbr.mono HB0.out.size)⟩
end Go.Proofs.YtkkemcfigjnbgaaDoor
