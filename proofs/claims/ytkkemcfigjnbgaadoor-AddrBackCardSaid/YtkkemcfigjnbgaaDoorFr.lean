/- What every law's proof of stage 1 shares: the listed tables, a start for the witness, how slices and structs that come in are read; and the document's example. -/
import Derived.Test.YtkkemcfigjnbgaaDoorCards
import Derived.Test.YtkkemcfigjnbgaaDoorTie
import Derived.Test.YtkkemcfigjnbgaaDoorAe
import Derived.WalkKit
import Derived.ProofKit
import Derived.OpenShut
import Derived.ShutString
import Derived.ChangeOld
import Derived.Below
import Derived.LaidMore
import Derived.Deep.DeepHandedRow
import Derived.Lib.LaidTab
import Derived.Stop.LaidErr
namespace Go.Proofs.YtkkemcfigjnbgaaDoor
set_option linter.unusedVariables false
open Go.ChangeShapes Go.WideShapes Go.ChangeAt Go.RowKit

theorem own : ownKnob Tryd.prog.godebug = none := by kernel_rfl
theorem laidOut : laidOutB Tryd.prog = true := by kernel_rfl
theorem gTab : Tryd.prog.globalNamed "internal/strconv.uint64pow10" = some 0 := by kernel_rfl
theorem gTabType : (Tryd.prog.globals[0]?).map (·.type) = some 65 := by kernel_rfl
theorem cellsTab : Tryd.prog.cellsOf 65 = 20 := by kernel_rfl
theorem cellsU64 : Tryd.prog.cellsOf 57 = 1 := by kernel_rfl

/-- The list of every law's row here. -/
def laidL : List (String × DataW Unit) := [("math/bits.deBruijn32tab", Rows.laid_math_bits_deBruijn32tab), ("math/bits.deBruijn64tab", Rows.laid_math_bits_deBruijn64tab), ("internal/strconv.uint64pow10", Rows.laid_internal_strconv_uint64pow10)]
/-- What the row's list gives: the powers of ten. -/
theorem table {W : World} (h : laidMetH Tryd.prog laidL W) : Lib.TabIs Tryd.prog W "internal/strconv.uint64pow10" .u64 Lib.pow10Tab :=
  Lib.tabIs_of_head (rest := []) gTab gTabType Tryd.underlying65 Tryd.underlying57 cellsU64 cellsTab (laidMet.tail (laidMet.tail (show laidMet Tryd.prog laidL W from h)))

theorem door_met (os : Os) (args : Array Value) : laidMet Tryd.prog laidL ((World.doorLaid Tryd.prog 400 os).forCall (fun _ _ => 0) ⟨#[], args, []⟩).memory :=
  laidMet_of_run' 8 (by kernel_rfl) (by kernel_rfl)

/-- A slice of integers that came in: nil; or a row of 'cap' cells, the first 'len' its elements. -/
def IsRow (k : IntKind) (w : World) (a : Option Addr) (len cap : Nat) (zs : List Int) : Prop :=
  (a = none ∧ len = 0 ∧ cap = 0 ∧ zs = []) ∨
  ∃ x, a = some x ∧ len ≤ cap ∧ cap ≤ maxLen ∧ zs.length = cap ∧ (∀ i, i < zs.length → w.cell? (x.add i) = some (.int k (zs.getD i 0))) ∧ ∀ n ∈ zs, (Lit.int k n).wf = true

theorem u32_bd {a : Int} (h : (Lit.int .u32 a).wf = true) : 0 ≤ a ∧ a ≤ 4294967295 := by
  have := bounds_u32 h; omega
theorem u8_bd {a : Int} (h : (Lit.int .u8 a).wf = true) : 0 ≤ a ∧ a ≤ 255 := by
  have := bounds_u8 h; omega

theorem bs_of_row {w : World} {a : Option Addr} {len cap : Nat} {zs : List Int} (h : IsRow .u8 w a len cap zs) : Bs w a (zs.take len) ∧ (zs.take len).length = len ∧ len ≤ 9223372036854775807 := by
  rcases h with ⟨rfl, rfl, rfl, rfl⟩ | ⟨x, rfl, hl, hm, hz, hc, hwf⟩
  · exact ⟨⟨.inl rfl, by simp⟩, rfl, by omega⟩
  · unfold maxLen at hm
    have hlen : (zs.take len).length = len := by rw [List.length_take]; omega
    have hget : ∀ k, k < len → (zs.take len).getD k 0 = zs.getD k 0 := by
      intro k hk
      rw [List.getD_eq_getElem?_getD, List.getD_eq_getElem?_getD, List.getElem?_take_of_lt hk]
    refine ⟨⟨?_, ?_⟩, hlen, by omega⟩
    · by_cases h0 : len = 0
      · subst h0; exact .inl (by simp)
      · obtain ⟨b, off, spot⟩ := x
        have hs : spot = none := by
          have := hc 0 (by omega)
          simpa [Addr.add] using World.cell?_spot this
        subst hs
        refine .inr ⟨b, off, rfl, ?_⟩
        intro k hk
        rw [hlen] at hk
        have := hc k (by omega)
        rw [hget k hk, ← this, Lib.add_plain]
    · intro k hk
      rw [hlen] at hk
      rw [hget k hk]
      have hmem : zs.getD k 0 ∈ zs := by
        rw [List.getD_eq_getElem?_getD, List.getElem?_eq_getElem (by omega)]
        exact List.getElem_mem _
      have := u8_bd (hwf _ hmem)
      omega

/-- The document's example. -/
theorem isText_239 : IsText [50, 51, 57, 46, 49, 46, 50, 46, 51] 4009820675 := ⟨by decide, by decide, by decide +kernel⟩
theorem txt_224 : txt 3758096385 = [50, 50, 52, 46, 48, 46, 48, 46, 49] := by decide +kernel

theorem aShown (w : World) (htab : Lib.TabIs Tryd.prog w "internal/strconv.uint64pow10" .u64 Lib.pow10Tab) :
    Calls Tryd.prog 9 #[] w fun e w' => e = .returned (.bool true) ∧ Below w.heap.size w w' := by
  have HT := Lib.hid (Lib.tabBelow_of_tabIs htab)
  have hp := p_yes isText_239
  have HP := Lib.hid hp
  clear htab hp
  go_enter Tryd.func9, Tryd.ntmps9
  go_wp2_with fail
  refine (aParse _ _ (by decide)).mono ?_
  rintro e w1 ⟨rfl, hb1⟩
  rw [show (⟨#[50, 51, 57, 46, 49, 46, 50, 46, 51]⟩ : ByteArray).data.toList = [50, 51, 57, 46, 49, 46, 50, 46, 51] from rfl, HP.out.1, HP.out.2]
  have HB1 := Lib.hid hb1
  clear hb1
  go_wp2_with fail
  refine (aText 3758096385 _ (by omega) (by omega) (HT.out w1 HB1.out)).mono ?_
  rintro e w2 ⟨rfl, hb2⟩
  rw [txt_224]
  have HB2 := Lib.hid (HB1.out.trans (hb2.mono HB1.out.size))
  clear hb2
  go_wp2_with (first
    | (go_at_call 19; refine (aIsAsked _ _).mono ?_; rintro e w' ⟨rfl, rfl⟩)
    | (go_at_call 17; refine (aIsLocal _ _).mono ?_; rintro e w' ⟨rfl, rfl⟩)
    | (go_at_call 13; refine (aBytes _ _ (by omega) (by omega)).mono ?_; rintro e w' ⟨rfl, rfl⟩))
  go_ret
  exact ⟨rfl, HB2.out.trans ((Below.refl _ _).alloc (Nat.le_refl _) _ |>.mono HB2.out.size)⟩

theorem bs_below {w w' : World} {a : Option Addr} {xs : List Int} (h : Bs w a xs) (hb : Below w.heap.size w w') : Bs w' a xs := by
  refine ⟨?_, h.2⟩
  rcases h.1 with h1 | ⟨b, off, e, hc⟩
  · exact .inl h1
  · refine .inr ⟨b, off, e, fun k hk => ?_⟩
    rw [hb.cell (p := ⟨b, off + k, none⟩) (cell_lt (hc k hk))]
    exact hc k hk
def l4 (a : Int) : List Int := [a / 16777216, a / 65536 % 256, a / 256 % 256, a % 256]
theorem l4_byt (a : Int) (k : Nat) (hk : k < 4) : (l4 a).getD k 0 = byt a k := by
  match k, hk with
  | 0, _ => rfl
  | 1, _ => rfl
  | 2, _ => rfl
  | 3, _ => rfl
theorem bs_new (a : Int) (h0 : 0 ≤ a) (h1 : a ≤ 4294967295) (W : World) : Bs (W.alloc (bytes4 a)) (some ⟨W.heap.size, 0, none⟩) (l4 a) := by
  refine ⟨.inr ⟨_, _, rfl, fun k hk => ?_⟩, fun k hk => ?_⟩
  · rw [Nat.zero_add, l4_byt a k hk]; exact bytes4_cell a W k hk
  · rw [l4_byt a k hk]; exact byt_bd h0 h1 k
theorem ofv_l4 (a : Int) (h0 : 0 ≤ a) (h1 : a ≤ 4294967295) : ofv (l4 a) = a := by
  unfold ofv l4
  simp only []
  omega
theorem l4_ofv {x0 x1 x2 x3 : Int} (h0 : 0 ≤ x0 ∧ x0 ≤ 255) (h1 : 0 ≤ x1 ∧ x1 ≤ 255) (h2 : 0 ≤ x2 ∧ x2 ≤ 255) (h3 : 0 ≤ x3 ∧ x3 ≤ 255) : l4 (ofv [x0, x1, x2, x3]) = [x0, x1, x2, x3] ∧ 0 ≤ ofv [x0, x1, x2, x3] ∧ ofv [x0, x1, x2, x3] ≤ 4294967295 := by
  unfold ofv l4
  simp only [List.cons.injEq, and_true]
  omega
theorem ofv_bd {xs : List Int} (h : ∀ k, k < xs.length → 0 ≤ xs.getD k 0 ∧ xs.getD k 0 ≤ 255) : 0 ≤ ofv xs ∧ ofv xs ≤ 4294967295 := by
  unfold ofv
  split
  · have h0 := h 0 (by simp)
    have h1 := h 1 (by simp)
    have h2 := h 2 (by simp)
    have h3 := h 3 (by simp)
    simp at h0 h1 h2 h3
    omega
  · omega
theorem ofv_ne {xs : List Int} (h : xs.length ≠ 4) : ofv xs = 0 := by unfold ofv; split <;> simp_all
end Go.Proofs.YtkkemcfigjnbgaaDoor
