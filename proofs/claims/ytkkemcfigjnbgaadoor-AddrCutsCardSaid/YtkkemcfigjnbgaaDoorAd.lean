/- Contracts of the document's own answers for addresses (stolonref01). -/
import Derived.Test.YtkkemcfigjnbgaaDoorAc
import Derived.Deep.RegionHeld3
namespace Go.Proofs.YtkkemcfigjnbgaaDoor
set_option linter.unusedVariables false
open Go.RowKit

theorem rGroup (a : Int) (w : World) :
    Calls Tryd.prog 16 #[.int .u32 a] w fun e w' => e = .returned (.bool (decide (3758096384 ≤ a) && decide (a ≤ 4026531839))) ∧ w = w' := by
  go_enter Tryd.func16, Tryd.ntmps16
  by_cases h1 : 3758096384 ≤ a <;> by_cases h2 : a ≤ 4026531839
  all_goals
    go_wp2
    go_ret
    exact ⟨by simp [h1, h2], rfl⟩
theorem rLocal (a : Int) (w : World) :
    Calls Tryd.prog 18 #[.int .u32 a] w fun e w' => e = .returned (.bool (decide (3758096384 ≤ a) && decide (a ≤ 3758096639))) ∧ w = w' := by
  go_enter Tryd.func18, Tryd.ntmps18
  by_cases h1 : 3758096384 ≤ a <;> by_cases h2 : a ≤ 3758096639
  all_goals
    go_wp2
    go_ret
    exact ⟨by simp [h1, h2], rfl⟩
theorem rAsked (a : Int) (w : World) :
    Calls Tryd.prog 20 #[.int .u32 a] w fun e w' => e = .returned (.bool (decide (3758096640 ≤ a) && decide (a ≤ 4026531839))) ∧ w = w' := by
  go_enter Tryd.func20, Tryd.ntmps20
  by_cases h1 : 3758096640 ≤ a <;> by_cases h2 : a ≤ 4026531839
  all_goals
    go_wp2
    go_ret
    exact ⟨by simp [h1, h2], rfl⟩

theorem rBytes (a : Int) (w : World) (h0 : 0 ≤ a) (h1 : a ≤ 4294967295) :
    Calls Tryd.prog 14 #[.int .u32 a] w fun e w' => e = .returned (.slice (some ⟨w.heap.size, 0, none⟩) 4 4) ∧ w.alloc (bytes4 a) = w' := by
  go_enter Tryd.func14, Tryd.ntmps14
  go_wp2
  go_ret
  refine ⟨rfl, ?_⟩
  rfl

theorem conv1 (x : Int) (h0 : 0 ≤ x) (h1 : x ≤ 255) (W : World) (B : Nat) (hB : W.heap.size = B) : (convert 27 9 (.slice (some ⟨B, 0, none⟩) 1 1)).run Tryd.prog (W.alloc (.cells #[.int .u8 x] 5)) = .ok (.string ⟨#[UInt8.ofNat x.toNat]⟩) (W.alloc (.cells #[.int .u8 x] 5)) := by
  subst hB
  have h := run_convert_bytes_back (P := Tryd.prog) (W.alloc (.cells #[.int .u8 x] 5)) 27 9 5 ⟨W.heap.size, 0, none⟩ 1 [UInt8.ofNat x.toNat] Tryd.underlying27 Tryd.underlying5 Tryd.underlying9 (fun j hj => by
    obtain rfl : j = 0 := by simpa using hj
    have e : ((UInt8.ofNat x.toNat).toNat : Int) = x := by simp; omega
    rw [show ([UInt8.ofNat x.toNat])[0] = UInt8.ofNat x.toNat from rfl, e]
    simp [Addr.add, World.cell?_alloc_new])
  exact h

theorem dd_fig1 (n : Int) (h0 : 0 ≤ n) (h1 : n < 10) : dd n = [UInt8.ofNat (48 + n % 10).toNat] := by
  unfold dd d3
  rw [if_pos (by omega), show (48 + n % 10).toNat = 48 + n.toNat by omega]
theorem dd_fig2 (n : Int) (h0 : 10 ≤ n) (h1 : n < 100) : dd n = [UInt8.ofNat (48 + n / 10 % 10).toNat, UInt8.ofNat (48 + n % 10).toNat] := by
  unfold dd d3
  rw [if_neg (by omega), if_pos (by omega), show (48 + n % 10).toNat = 48 + n.toNat % 10 by omega, show (48 + n / 10 % 10).toNat = 48 + n.toNat / 10 by omega]
theorem dd_fig3 (n : Int) (h0 : 100 ≤ n) (h1 : n ≤ 255) : dd n = [UInt8.ofNat (48 + n / 100).toNat, UInt8.ofNat (48 + n / 10 % 10).toNat, UInt8.ofNat (48 + n % 10).toNat] := by
  unfold dd d3
  rw [if_neg (by omega), if_neg (by omega), show (48 + n % 10).toNat = 48 + n.toNat % 10 by omega, show (48 + n / 10 % 10).toNat = 48 + n.toNat / 10 % 10 by omega, show (48 + n / 100).toNat = 48 + n.toNat / 100 by omega]

set_option maxHeartbeats 400000 in
theorem rFigures (n : Int) (w : World) (h0 : 0 ≤ n) (h1 : n ≤ 255) :
    Calls Tryd.prog 28 #[.int .i64 n] w fun e w' => e = .returned (.string ⟨(dd n).toArray⟩) ∧ Below w.heap.size w w' := by
  have c1 := conv1 (48 + n % 10) (by omega) (by omega)
  by_cases k1 : n < 10
  · have HD := Lib.hid (dd_fig1 n h0 k1)
    go_enter Tryd.func28, Tryd.ntmps28
    go_wp2
    go_ret
    exact ⟨by rw [HD.out]; rfl, (Below.refl _ _).alloc (Nat.le_refl _) _⟩
  · have c2 := conv1 (48 + n / 10 % 10) (by omega) (by omega)
    by_cases k2 : n < 100
    · have HD := Lib.hid (dd_fig2 n (by omega) k2)
      go_enter Tryd.func28, Tryd.ntmps28
      go_wp2
      go_ret
      exact ⟨by rw [HD.out]; rfl, ((Below.refl _ _).alloc (Nat.le_refl _) _).alloc (by simp) _⟩
    · have HD := Lib.hid (dd_fig3 n (by omega) h1)
      have c3 := conv1 (48 + n / 100) (by omega) (by omega)
      go_enter Tryd.func28, Tryd.ntmps28
      go_wp2
      go_ret
      exact ⟨by rw [HD.out]; rfl, (((Below.refl _ _).alloc (Nat.le_refl _) _).alloc (by simp) _).alloc (by simp; omega) _⟩

def ds (y : Int) : ByteArray := ⟨(dd y).toArray⟩
theorem ds_size {y : Int} (h0 : 0 ≤ y) (h1 : y ≤ 255) : (ds y).size ≤ 3 := by
  have := (dd_len h0 h1).2
  simpa [ds, ByteArray.size] using this
theorem dot_size : (⟨#[46]⟩ : ByteArray).size = 1 := rfl
theorem catRun (a b : ByteArray) (h : a.size + b.size ≤ 1000) (W : World) : (Op.stringOp .add a b).run Tryd.prog W = .ok (.string (a ++ b)) W := run_string_add_sum W a b (by omega)
theorem rFiguresS (n : Int) (w : World) (h0 : 0 ≤ n) (h1 : n ≤ 255) :
    Calls Tryd.prog 28 #[.int .i64 n] w fun e w' => e = .returned (.string (ds n)) ∧ Below w.heap.size w w' := rFigures n w h0 h1
theorem keepS {B : Nat} {W : World} {y0 y1 y2 y3 : Int} (hz : B < W.heap.size) (x0 : W.cell? ⟨B, 0, none⟩ = some (.int .u8 y0)) (x1 : W.cell? ⟨B, 1, none⟩ = some (.int .u8 y1)) (x2 : W.cell? ⟨B, 2, none⟩ = some (.int .u8 y2)) (x3 : W.cell? ⟨B, 3, none⟩ = some (.int .u8 y3)) {w1 w' : World}
    (h : w1.cell? ⟨B, 0, none⟩ = some (.int .u8 y0) ∧ w1.cell? ⟨B, 1, none⟩ = some (.int .u8 y1) ∧ w1.cell? ⟨B, 2, none⟩ = some (.int .u8 y2) ∧ w1.cell? ⟨B, 3, none⟩ = some (.int .u8 y3) ∧ Below W.heap.size W w1) (hb : Below w1.heap.size w1 w') :
    w'.cell? ⟨B, 0, none⟩ = some (.int .u8 y0) ∧ w'.cell? ⟨B, 1, none⟩ = some (.int .u8 y1) ∧ w'.cell? ⟨B, 2, none⟩ = some (.int .u8 y2) ∧ w'.cell? ⟨B, 3, none⟩ = some (.int .u8 y3) ∧ Below W.heap.size W w' := by
  have hB := h.2.2.2.2.trans (hb.mono h.2.2.2.2.size)
  exact ⟨(hB.cell (p := ⟨B, 0, none⟩) hz).trans x0, (hB.cell (p := ⟨B, 1, none⟩) hz).trans x1, (hB.cell (p := ⟨B, 2, none⟩) hz).trans x2, (hB.cell (p := ⟨B, 3, none⟩) hz).trans x3, hB⟩

set_option maxHeartbeats 1000000 in
theorem rText (a : Int) (w : World) (h0 : 0 ≤ a) (h1 : a ≤ 4294967295) :
    Calls Tryd.prog 11 #[.int .u32 a] w fun e w' => e = .returned (.string ⟨(txt a).toArray⟩) ∧ Below w.heap.size w w' := by
  have g0 := byt_bd h0 h1 0
  have g1 := byt_bd h0 h1 1
  have g2 := byt_bd h0 h1 2
  have g3 := byt_bd h0 h1 3
  have l0 := (dd_len g0.1 g0.2).2
  have l1 := (dd_len g1.1 g1.2).2
  have l2 := (dd_len g2.1 g2.2).2
  have l3 := (dd_len g3.1 g3.2).2
  have x0 := bytes4_cell a w 0 (by omega)
  have x1 := bytes4_cell a w 1 (by omega)
  have x2 := bytes4_cell a w 2 (by omega)
  have x3 := bytes4_cell a w 3 (by omega)
  have HB0 := Lib.hid ((Below.refl w.heap.size w).alloc (Nat.le_refl _) (bytes4 a))
  have HT : Hid (txt a = dd (byt a 0) ++ 46 :: (dd (byt a 1) ++ 46 :: (dd (byt a 2) ++ 46 :: dd (byt a 3)))) := rfl
  have hz : w.heap.size < (w.alloc (bytes4 a)).heap.size := by simp
  generalize byt a 0 = y0 at *
  generalize byt a 1 = y1 at *
  generalize byt a 2 = y2 at *
  generalize byt a 3 = y3 at *
  obtain ⟨W, hW⟩ : ∃ W, W = w.alloc (bytes4 a) := ⟨_, rfl⟩
  rw [← hW] at x0 x1 x2 x3 hz HB0
  have HW := Lib.hid hW
  clear hW
  go_enter Tryd.func11, Tryd.ntmps11
  go_wp2_with fail
  refine (rBytes a _ h0 h1).mono ?_
  rintro e w' ⟨rfl, rfl⟩
  rw [← HW.out]
  go_wp2_with fail
  have z0 := ds_size g0.1 g0.2
  have z1 := ds_size g1.1 g1.2
  have z2 := ds_size g2.1 g2.2
  have z3 := ds_size g3.1 g3.2
  have r1 := catRun (ds y0) ⟨#[46]⟩ (by rw [dot_size]; omega)
  have r2 := catRun (ds y0 ++ ⟨#[46]⟩) (ds y1) (by simp only [ByteArray.size_append, dot_size]; omega)
  have r3 := catRun (ds y0 ++ ⟨#[46]⟩ ++ ds y1) ⟨#[46]⟩ (by simp only [ByteArray.size_append, dot_size]; omega)
  have r4 := catRun (ds y0 ++ ⟨#[46]⟩ ++ ds y1 ++ ⟨#[46]⟩) (ds y2) (by simp only [ByteArray.size_append, dot_size]; omega)
  have r5 := catRun (ds y0 ++ ⟨#[46]⟩ ++ ds y1 ++ ⟨#[46]⟩ ++ ds y2) ⟨#[46]⟩ (by simp only [ByteArray.size_append, dot_size]; omega)
  have r6 := catRun (ds y0 ++ ⟨#[46]⟩ ++ ds y1 ++ ⟨#[46]⟩ ++ ds y2 ++ ⟨#[46]⟩) (ds y3) (by simp only [ByteArray.size_append, dot_size]; omega)
  clear l0 l1 l2 l3 z0 z1 z2 z3
  have e0 : IntKind.i64.wrap y0 = y0 := IntWalk.i64_in _ (by omega)
  have e1 : IntKind.i64.wrap y1 = y1 := IntWalk.i64_in _ (by omega)
  have e2 : IntKind.i64.wrap y2 = y2 := IntWalk.i64_in _ (by omega)
  have e3 : IntKind.i64.wrap y3 = y3 := IntWalk.i64_in _ (by omega)
  go_region_held3 (fun w' => w'.cell? ⟨w.heap.size, 0, none⟩ = some (.int .u8 y0) ∧ w'.cell? ⟨w.heap.size, 1, none⟩ = some (.int .u8 y1) ∧ w'.cell? ⟨w.heap.size, 2, none⟩ = some (.int .u8 y2) ∧ w'.cell? ⟨w.heap.size, 3, none⟩ = some (.int .u8 y3) ∧ Below W.heap.size W w')
    (first | (have hB := (Below.refl W.heap.size W).drew; exact ⟨(hB.cell (p := ⟨w.heap.size, 0, none⟩) hz).trans x0, (hB.cell (p := ⟨w.heap.size, 1, none⟩) hz).trans x1, (hB.cell (p := ⟨w.heap.size, 2, none⟩) hz).trans x2, (hB.cell (p := ⟨w.heap.size, 3, none⟩) hz).trans x3, hB⟩) | exact keepS hz x0 x1 x2 x3 (by assumption) hb)
    (first | (go_at_call 28; refine (rFiguresS _ _ (by omega) (by omega)).mono ?_; rintro e w' ⟨rfl, hb⟩))
  have hB : Below W.heap.size W w' := by
    have h : w'.cell? ⟨w.heap.size, 0, none⟩ = some (.int .u8 y0) ∧ w'.cell? ⟨w.heap.size, 1, none⟩ = some (.int .u8 y1) ∧ w'.cell? ⟨w.heap.size, 2, none⟩ = some (.int .u8 y2) ∧ w'.cell? ⟨w.heap.size, 3, none⟩ = some (.int .u8 y3) ∧ Below W.heap.size W w' := by assumption
    exact h.2.2.2.2
  have hfin := HB0.out.trans (hB.mono HB0.out.size)
  have HF := Lib.hid hfin
  clear hB hfin
  go_wp2
  go_ret
  refine ⟨?_, HF.out⟩
  rw [HT.out]
  refine congrArg Ending.returned (congrArg Value.string ?_)
  apply ByteArray.ext
  simp [ds]

/-- The same for the program's text and the document's. -/
theorem cell_lt {W : World} {a : Addr} {v : Value} (h : W.cell? a = some v) : a.block < W.heap.size := World.block_lt_of_cell? W a h

theorem rOf (a : Option Addr) (n cap : Nat) (xs : List Int) (w : World) (hn : xs.length = n) (hm : n ≤ 9223372036854775807) (hb : Bs w a xs) :
    Calls Tryd.prog 25 #[.slice a n cap] w fun e w' => e = .returned (.tuple #[.int .u32 (ofv xs), .int .i64 (ofe n)]) ∧ Below w.heap.size w w' := by
  by_cases h1 : n < 4
  · have e1 : ofv xs = 0 := by unfold ofv; split <;> simp_all
    have e2 : ofe n = 3 := by simp [ofe, h1]
    rw [e1, e2]
    clear hb e1 e2
    have HN := Lib.hid hn; clear hn
    go_enter Tryd.func25, Tryd.ntmps25
    go_wp2
    go_ret2
    exact ⟨rfl, Below.refl _ _⟩
  · by_cases h2 : 4 < n
    · have e1 : ofv xs = 0 := by unfold ofv; split <;> simp_all
      have e2 : ofe n = 2 := by simp [ofe, h1, h2]
      rw [e1, e2]
      clear hb e1 e2
      have HN := Lib.hid hn; clear hn
      go_enter Tryd.func25, Tryd.ntmps25
      go_wp2
      go_ret2
      exact ⟨rfl, Below.refl _ _⟩
    · obtain rfl : n = 4 := by omega
      match xs, hn with
      | [x0, x1, x2, x3], _ =>
        obtain ⟨hc, hbd⟩ := hb
        rcases hc with hc | ⟨b, off, rfl, hc⟩
        · simp at hc
        · have c0 : w.cell? ⟨b, off, none⟩ = some (.int .u8 x0) := hc 0 (by simp)
          have c1 : w.cell? ⟨b, off + 1, none⟩ = some (.int .u8 x1) := hc 1 (by simp)
          have c2 : w.cell? ⟨b, off + 2, none⟩ = some (.int .u8 x2) := hc 2 (by simp)
          have c3 : w.cell? ⟨b, off + 3, none⟩ = some (.int .u8 x3) := hc 3 (by simp)
          obtain ⟨d0, d0'⟩ : 0 ≤ x0 ∧ x0 ≤ 255 := hbd 0 (by simp)
          obtain ⟨d1, d1'⟩ : 0 ≤ x1 ∧ x1 ≤ 255 := hbd 1 (by simp)
          obtain ⟨d2, d2'⟩ : 0 ≤ x2 ∧ x2 ≤ 255 := hbd 2 (by simp)
          obtain ⟨d3, d3'⟩ : 0 ≤ x3 ∧ x3 ≤ 255 := hbd 3 (by simp)
          clear hc hbd h1 h2 hm
          go_enter Tryd.func25, Tryd.ntmps25
          go_wp2
          go_quiet (fail)
          go_wp2
          go_ret2
          refine ⟨?_, bdrawn (Below.refl _ _) _⟩
          refine congrArg Ending.returned (congrArg Value.tuple ?_)
          have e : x0 * 16777216 + x1 * 65536 + x2 * 256 + x3 = ((x0 * 256 + x1) * 256 + x2) * 256 + x3 := by omega
          show #[Value.int .u32 (x0 * 16777216 + x1 * 65536 + x2 * 256 + x3), Value.int .i64 0] = _
          rw [e]; rfl

/-- Two rows of bytes are the same. -/
def SameB (xs ys : List Int) : Bool := decide (xs = ys)

theorem rSame0 (a b : Option Addr) (c d : Nat) (w : World) :
    Calls Tryd.prog 12 #[.slice a 0 c, .slice b 0 d] w fun e w' => e = .returned (.bool true) ∧ Below w.heap.size w w' := by
  go_enter Tryd.func12, Tryd.ntmps12
  go_wp2
  refine wp_loop_rounds 1 ?_
  rw [rounds_succ]
  go_wp2
  go_ret
  exact ⟨rfl, Below.refl _ _⟩
theorem rSameNe (a b : Option Addr) (n m c d : Nat) (w : World) (h : n ≠ m) :
    Calls Tryd.prog 12 #[.slice a n c, .slice b m d] w fun e w' => e = .returned (.bool false) ∧ Below w.heap.size w w' := by
  have hne : ((n : Int) != (m : Int)) = true := by rw [bne_iff_ne]; omega
  have HN := Lib.hid h
  clear h
  go_enter Tryd.func12, Tryd.ntmps12
  go_wp2
  go_ret
  exact ⟨rfl, Below.refl _ _⟩

def PreEq (xs ys : List Int) (k : Nat) : Prop := ∀ j, j < k → xs.getD j 0 = ys.getD j 0

theorem pre_step {xs ys : List Int} {k : Nat} (h : PreEq xs ys k) (e : xs.getD k 0 = ys.getD k 0) : PreEq xs ys (k + 1) := by
  intro j hj
  rcases Nat.lt_succ_iff_lt_or_eq.1 hj with hj | rfl
  · exact h j hj
  · exact e
theorem ext_getD {xs ys : List Int} {n : Nat} (hx : xs.length = n) (hy : ys.length = n) (h : PreEq xs ys n) : xs = ys := by
  apply List.ext_getElem (hx.trans hy.symm)
  intro i h1 h2
  have := h i (by omega)
  simpa [List.getD_eq_getElem?_getD, h1, h2] using this

set_option maxHeartbeats 1000000 in
theorem rSame1 (b1 o1 b2 o2 n c d : Nat) (xs ys : List Int) (w : World) (hx : xs.length = n) (hy : ys.length = n) (hm : n ≤ 9223372036854775807)
    (h1 : ∀ k, k < n → w.cell? ⟨b1, o1 + k, none⟩ = some (.int .u8 (xs.getD k 0))) (h2 : ∀ k, k < n → w.cell? ⟨b2, o2 + k, none⟩ = some (.int .u8 (ys.getD k 0))) :
    Calls Tryd.prog 12 #[.slice (some ⟨b1, o1, none⟩) n c, .slice (some ⟨b2, o2, none⟩) n d] w fun e w' => e = .returned (.bool (SameB xs ys)) ∧ Below w.heap.size w w' := by
  have hne : ((n : Int) != (n : Int)) = false := by simp
  have HX := Lib.hid hx
  have HY := Lib.hid hy
  have H1 := Lib.hid h1
  have H2 := Lib.hid h2
  clear hx hy h1 h2
  go_enter Tryd.func12, Tryd.ntmps12
  go_wp2
  go_loopw [5] (fun i wr => ∃ k q : Nat, k ≤ n ∧ i = .int .i64 k ∧ PreEq xs ys k ∧ wr = w.drewN q) (fun i _ => n - (intOf i).toNat)
  case atStart => exact ⟨0, 0, by omega, rfl, fun j hj => absurd hj (by omega), rfl⟩
  case round =>
    obtain ⟨k, q, hk, rfl, hpre, rfl⟩ := hrel
    have HP := Lib.hid hpre
    clear hpre
    by_cases hlt : k < n
    · have c1 : ∀ q, (w.drewN q).cell? ⟨b1, o1 + k, none⟩ = some (.int .u8 (xs.getD k 0)) := fun q => H1.out k hlt
      have c2 : ∀ q, (w.drewN q).cell? ⟨b2, o2 + k, none⟩ = some (.int .u8 (ys.getD k 0)) := fun q => H2.out k hlt
      have i1 : (0 : Int) ≤ (k : Int) := by omega
      have i2 : (k : Int) < (n : Int) := by omega
      generalize hxk : xs.getD k 0 = x at *
      generalize hyk : ys.getD k 0 = y at *
      have HXK := Lib.hid hxk
      have HYK := Lib.hid hyk
      clear hxk hyk
      by_cases hxy : x = y
      · have hb : ((x : Int) != y) = false := by simp [hxy]
        have HXY := Lib.hid hxy
        clear hxy
        go_wp2
        go_quiet (fail)
        go_wp2
        go_roundw
        case rel => exact ⟨k + 1, _, by omega, by go_num, pre_step HP.out (HXK.out.trans (HXY.out.trans HYK.out.symm)), rfl⟩
        case measure => simp [intOf]; omega
      · have hb : ((x : Int) == y) = false := by simp [hxy]
        have hb' : ((x : Int) != y) = true := by simp [hxy]
        have hfin : SameB xs ys = false := by
          unfold SameB
          rw [decide_eq_false_iff_not]
          intro e; subst e; exact hxy (HXK.out.symm.trans HYK.out)
        have HF := Lib.hid hfin
        clear hxy hfin
        go_wp2
        go_quiet (fail)
        go_wp2
        go_ret
        exact ⟨congrArg (fun b => Ending.returned (Value.bool b)) HF.out.symm, bdrawn (bdrawn (Below.refl _ _) _) _⟩
    · obtain rfl : k = n := by omega
      have hfin : SameB xs ys = true := by
        unfold SameB
        rw [decide_eq_true_eq]
        exact ext_getD HX.out HY.out HP.out
      have HF := Lib.hid hfin
      clear hfin
      go_wp2
      go_ret
      exact ⟨congrArg (fun b => Ending.returned (Value.bool b)) HF.out.symm, bdrawn (Below.refl _ _) _⟩

/-- Two slices of bytes, whatever they are. -/
theorem rSame (a b : Option Addr) (n m c d : Nat) (xs ys : List Int) (w : World) (hx : xs.length = n) (hy : ys.length = m) (hm : n ≤ 9223372036854775807) (h1 : Bs w a xs) (h2 : Bs w b ys) :
    Calls Tryd.prog 12 #[.slice a n c, .slice b m d] w fun e w' => e = .returned (.bool (SameB xs ys)) ∧ Below w.heap.size w w' := by
  by_cases hnm : n = m
  · subst hnm
    rcases h1.1 with rfl | ⟨b1, o1, rfl, c1⟩
    · obtain rfl : n = 0 := by simpa using hx.symm
      obtain rfl : ys = [] := List.eq_nil_of_length_eq_zero hy
      exact rSame0 a b c d w
    · rcases h2.1 with rfl | ⟨b2, o2, rfl, c2⟩
      · obtain rfl : n = 0 := by simpa using hy.symm
        obtain rfl : xs = [] := List.eq_nil_of_length_eq_zero hx
        exact rSame0 _ b c d w
      · exact rSame1 b1 o1 b2 o2 n c d xs ys w hx hy hm (fun k hk => c1 k (by omega)) (fun k hk => c2 k (by omega))
  · have e : SameB xs ys = false := by
      unfold SameB
      rw [decide_eq_false_iff_not]
      intro e; subst e; omega
    rw [e]
    exact rSameNe a b n m c d w hnm
end Go.Proofs.YtkkemcfigjnbgaaDoor
