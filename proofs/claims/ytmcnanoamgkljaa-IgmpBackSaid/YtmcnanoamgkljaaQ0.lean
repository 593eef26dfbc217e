/- Slices of bytes: what they hold, and the document's own answer to whether two are the same. -/
import Derived.Test.YtmcnanoamgkljaaChecked
import Derived.WalkKit
import Derived.WalkLawsBesides
import Derived.Outline
import Derived.OpenShut
import Derived.Below
import Derived.IntWalk
import Derived.Lib.Hide
import Derived.Deep.QuietTactic
import Derived.BigQuiet
import Derived.Deep.OwnRows
import Derived.Deep.RegionWith
import Derived.Deep.RegionHeld3
namespace Go.Proofs.Ytmcnanoamgkljaa
set_option linter.unusedVariables false
open Go.RowKit

/-- A slice of bytes. -/
def Bs (w : World) (a : Option Addr) (xs : List Int) : Prop := (xs = [] ∨ ∃ b off, a = some ⟨b, off, none⟩ ∧ ∀ k, k < xs.length → w.cell? ⟨b, off + k, none⟩ = some (.int .u8 (xs.getD k 0))) ∧ ∀ k, k < xs.length → 0 ≤ xs.getD k 0 ∧ xs.getD k 0 ≤ 255
theorem cell_lt {W : World} {a : Addr} {v : Value} (h : W.cell? a = some v) : a.block < W.heap.size := World.block_lt_of_cell? W a h
theorem bs_below {w w' : World} {a : Option Addr} {xs : List Int} (h : Bs w a xs) (hb : Below w.heap.size w w') : Bs w' a xs := by
  refine ⟨?_, h.2⟩
  rcases h.1 with h1 | ⟨b, off, e, hc⟩
  · exact .inl h1
  · refine .inr ⟨b, off, e, fun k hk => ?_⟩
    rw [hb.cell (p := ⟨b, off + k, none⟩) (cell_lt (hc k hk))]
    exact hc k hk
theorem ret_v {a b : Value} (h : a = b) : Ending.returned a = .returned b := by rw [h]
theorem ret_int {k : IntKind} {a b : Int} (h : a = b) : Ending.returned (.int k a) = .returned (.int k b) := by rw [h]
theorem ret_bool {a b : Bool} (h : a = b) : Ending.returned (.bool a) = .returned (.bool b) := by rw [h]
theorem bdrawn {B : Nat} {a w : World} (h : Below B a w) (n : Nat) : Below B a (w.drewN n) := h.trans ⟨rfl, rfl, rfl, Nat.le_refl _, fun _ _ => rfl⟩
theorem bcell {W w1 : World} (hb : Below W.heap.size W w1) : (∀ b o, b < W.heap.size → w1.cell? ⟨b, o, none⟩ = W.cell? ⟨b, o, none⟩) ∧ (∀ b o, b < W.heap.size → w1.frozen? ⟨b, o, none⟩ = W.frozen? ⟨b, o, none⟩) :=
  ⟨fun b o h => hb.cell (p := ⟨b, o, none⟩) h, fun b o h => hb.frozen (p := ⟨b, o, none⟩) h⟩
end Go.Proofs.Ytmcnanoamgkljaa
/- Messages of hosts and routers, plainly: records, messages, and when two are the same. -/
namespace Go.Proofs.Ytmcnanoamgkljaa
set_option linter.unusedVariables false

/-- A record. -/
structure Rec where
  typ : Int
  grp : Int
  srcs : List Int
/-- A message. -/
structure Msg where
  kind : Int
  ver : Int
  code : Int
  grp : Int
  quiet : Bool
  rob : Int
  every : Int
  srcs : List Int
  recs : List Rec

/-- Two records are the same. -/
def sameR (x y : Rec) : Bool := (x.typ == y.typ) && (x.grp == y.grp) && decide (x.srcs = y.srcs)
/-- Two rows of records are the same. -/
def sameL : List Rec → List Rec → Bool
  | [], [] => true
  | x :: l, y :: r => sameR x y && sameL l r
  | _, _ => false
/-- Two messages are the same. -/
def sameM (a b : Msg) : Bool :=
  (a.kind == b.kind) && (a.ver == b.ver) && (a.code == b.code) && (a.grp == b.grp) && (a.quiet == b.quiet) && (a.rob == b.rob) && (a.every == b.every) && decide (a.srcs = b.srcs) && sameL a.recs b.recs
theorem sameR_iff (x y : Rec) : sameR x y = true ↔ x = y := by
  obtain ⟨a, b, c⟩ := x
  obtain ⟨a', b', c'⟩ := y
  simp [sameR, and_assoc]
theorem sameL_iff : ∀ (l r : List Rec), sameL l r = true ↔ l = r
  | [], [] => by simp [sameL]
  | [], y :: r => by simp [sameL]
  | x :: l, [] => by simp [sameL]
  | x :: l, y :: r => by simp [sameL, sameR_iff, sameL_iff l r]
theorem sameM_iff (a b : Msg) : sameM a b = true ↔ a = b := by
  obtain ⟨a1, a2, a3, a4, a5, a6, a7, a8, a9⟩ := a
  obtain ⟨b1, b2, b3, b4, b5, b6, b7, b8, b9⟩ := b
  simp [sameM, sameL_iff, and_assoc]
theorem sameL_len {l r : List Rec} (h : l.length ≠ r.length) : sameL l r = false := by
  cases e : sameL l r with
  | false => rfl
  | true => rw [sameL_iff] at e; subst e; exact absurd rfl h
/-- As far as place k, two rows are the same. -/
def Pre (l r : List Rec) (k : Nat) : Prop := ∀ j, j < k → l[j]? = r[j]?
theorem pre0 (l r : List Rec) : Pre l r 0 := fun j h => absurd h (by omega)
theorem pre_next {l r : List Rec} {k : Nat} (h : Pre l r k) {x y : Rec} (hx : l[k]? = some x) (hy : r[k]? = some y) (e : sameR x y = true) : Pre l r (k + 1) := by
  intro j hj
  rcases Nat.lt_succ_iff_lt_or_eq.1 hj with hj | rfl
  · exact h j hj
  · rw [hx, hy, (sameR_iff x y).1 e]
theorem pre_all {l r : List Rec} {n : Nat} (hl : l.length = n) (hr : r.length = n) (h : Pre l r n) : sameL l r = true := by
  rw [sameL_iff]
  apply List.ext_getElem?
  intro j
  by_cases hj : j < n
  · exact h j hj
  · rw [List.getElem?_eq_none (by omega), List.getElem?_eq_none (by omega)]
theorem pre_not {l r : List Rec} {k : Nat} {x y : Rec} (hx : l[k]? = some x) (hy : r[k]? = some y) (e : sameR x y = false) : sameL l r = false := by
  cases e' : sameL l r with
  | false => rfl
  | true =>
    rw [sameL_iff] at e'; subst e'
    rw [hx] at hy; cases hy
    rw [(sameR_iff x x).2 rfl] at e; cases e
end Go.Proofs.Ytmcnanoamgkljaa
/- Slices of addresses, slices of records, messages: what they hold. -/
namespace Go.Proofs.Ytmcnanoamgkljaa
set_option linter.unusedVariables false
open Go.RowKit

/-- A slice of addresses. -/
def As (w : World) (a : Option Addr) (xs : List Int) : Prop := (xs = [] ∨ ∃ b off, a = some ⟨b, off, none⟩ ∧ ∀ k, k < xs.length → w.cell? ⟨b, off + k, none⟩ = some (.int .u32 (xs.getD k 0))) ∧ ∀ k, k < xs.length → 0 ≤ xs.getD k 0 ∧ xs.getD k 0 ≤ 4294967295
theorem As.below {w w' : World} {a : Option Addr} {xs : List Int} (h : As w a xs) (hb : Below w.heap.size w w') : As w' a xs := by
  refine ⟨?_, h.2⟩
  rcases h.1 with h1 | ⟨b, off, e, hc⟩
  · exact .inl h1
  · refine .inr ⟨b, off, e, fun k hk => ?_⟩
    rw [hb.cell (p := ⟨b, off + k, none⟩) (cell_lt (hc k hk))]
    exact hc k hk
theorem As.nil (w : World) (a : Option Addr) : As w a [] := ⟨.inl rfl, fun k h => absurd h (by simp)⟩
/-- A record in three cells. -/
def RecAt (w : World) (b o : Nat) (r : Rec) : Prop :=
  ∃ a c, w.cell? ⟨b, o, none⟩ = some (.int .u8 r.typ) ∧ w.cell? ⟨b, o + 1, none⟩ = some (.int .u32 r.grp) ∧ w.cell? ⟨b, o + 2, none⟩ = some (.slice a r.srcs.length c) ∧ As w a r.srcs ∧
    (0 ≤ r.typ ∧ r.typ ≤ 255) ∧ (0 ≤ r.grp ∧ r.grp ≤ 4294967295) ∧ r.srcs.length ≤ 1125899906842624
theorem RecAt.below {w w' : World} {b o : Nat} {r : Rec} (h : RecAt w b o r) (hb : Below w.heap.size w w') : RecAt w' b o r := by
  obtain ⟨a, c, h0, h1, h2, h3, h4⟩ := h
  refine ⟨a, c, ?_, ?_, ?_, h3.below hb, h4⟩
  · rw [hb.cell (p := ⟨b, o, none⟩) (cell_lt h0)]; exact h0
  · rw [hb.cell (p := ⟨b, o + 1, none⟩) (cell_lt h1)]; exact h1
  · rw [hb.cell (p := ⟨b, o + 2, none⟩) (cell_lt h2)]; exact h2
/-- A slice of records. -/
def Rs (w : World) (a : Option Addr) (rs : List Rec) : Prop := rs = [] ∨ ∃ b off, a = some ⟨b, off, none⟩ ∧ ∀ (k : Nat) r, rs[k]? = some r → RecAt w b (off + k * 3) r
theorem Rs.below {w w' : World} {a : Option Addr} {rs : List Rec} (h : Rs w a rs) (hb : Below w.heap.size w w') : Rs w' a rs := by
  rcases h with h | ⟨b, off, e, hc⟩
  · exact .inl h
  · exact .inr ⟨b, off, e, fun k r hk => (hc k r hk).below hb⟩
theorem Rs.nil (w : World) (a : Option Addr) : Rs w a [] := .inl rfl
/-- What numbers a message has. -/
def Msg.ok (m : Msg) : Prop := (0 ≤ m.kind ∧ m.kind ≤ 255) ∧ (-9223372036854775808 ≤ m.ver ∧ m.ver ≤ 9223372036854775807) ∧ (0 ≤ m.code ∧ m.code ≤ 255) ∧ (0 ≤ m.grp ∧ m.grp ≤ 4294967295) ∧ (0 ≤ m.rob ∧ m.rob ≤ 255) ∧ (0 ≤ m.every ∧ m.every ≤ 255) ∧
  m.srcs.length ≤ 1125899906842624 ∧ m.recs.length ≤ 1125899906842624
/-- A message's rows. -/
def Ms (w : World) (m : Msg) (sa ra : Option Addr) : Prop := As w sa m.srcs ∧ Rs w ra m.recs ∧ m.ok
theorem Ms.below {w w' : World} {m : Msg} {sa ra : Option Addr} (h : Ms w m sa ra) (hb : Below w.heap.size w w') : Ms w' m sa ra := ⟨h.1.below hb, h.2.1.below hb, h.2.2⟩
/-- A message as a value. -/
def mv (m : Msg) (sa : Option Addr) (sc : Nat) (ra : Option Addr) (rc : Nat) : Value :=
  .agg #[.int .u8 m.kind, .int .i64 m.ver, .int .u8 m.code, .int .u32 m.grp, .bool m.quiet, .int .u8 m.rob, .int .u8 m.every, .slice sa m.srcs.length sc, .slice ra m.recs.length rc]
def PreA (xs ys : List Int) (k : Nat) : Prop := ∀ j, j < k → xs.getD j 0 = ys.getD j 0
theorem preA0 (xs ys : List Int) : PreA xs ys 0 := fun j h => absurd h (by omega)
theorem preA_step {xs ys : List Int} {k : Nat} (h : PreA xs ys k) (e : xs.getD k 0 = ys.getD k 0) : PreA xs ys (k + 1) := by
  intro j hj
  rcases Nat.lt_succ_iff_lt_or_eq.1 hj with hj | rfl
  · exact h j hj
  · exact e
theorem preA_ext {xs ys : List Int} {n : Nat} (hx : xs.length = n) (hy : ys.length = n) (h : PreA xs ys n) : xs = ys := by
  apply List.ext_getElem (hx.trans hy.symm)
  intro i h1 h2
  have := h i (by omega)
  simpa [List.getD_eq_getElem?_getD, h1, h2] using this
theorem bel1 (w : World) (o : Obj) : Below w.heap.size w (w.alloc o) := (Below.refl _ w).alloc (Nat.le_refl _) o
theorem bel2 (w : World) (o o' : Obj) : Below w.heap.size w ((w.alloc o).alloc o') := (bel1 w o).alloc (bel1 w o).size o'
theorem bel_up {w w1 w2 : World} (h : Below w.heap.size w w1) (k : Below w1.heap.size w1 w2) : Below w.heap.size w w2 := h.trans (k.mono h.size)
theorem cell_new (w : World) (cs : Array Value) (T : TypeId) (j : Nat) : (w.alloc (.cells cs T)).cell? ⟨w.heap.size, j, none⟩ = cs[j]? := by
  unfold World.cell?
  simp only [Go.Deep.blk_alloc_new]
  simp
theorem box1 {w w1 : World} {cs : Array Value} {T : TypeId} (hb : Below (w.alloc (.cells cs T)).heap.size (w.alloc (.cells cs T)) w1) (j : Nat) : w1.cell? ⟨w.heap.size, j, none⟩ = cs[j]? := by
  rw [hb.cell (p := ⟨w.heap.size, j, none⟩) (by simp)]
  exact cell_new w cs T j
theorem box2 {w w1 : World} {cs cs' : Array Value} {T T' : TypeId} (hb : Below ((w.alloc (.cells cs T)).alloc (.cells cs' T')).heap.size ((w.alloc (.cells cs T)).alloc (.cells cs' T')) w1) :
    (∀ j, w1.cell? ⟨w.heap.size, j, none⟩ = cs[j]?) ∧ (∀ j, w1.cell? ⟨w.heap.size + 1, j, none⟩ = cs'[j]?) := by
  constructor
  · intro j
    rw [hb.cell (p := ⟨w.heap.size, j, none⟩) (by simp; omega), World.cell?_alloc_lt _ _ _ (by simp)]
    exact cell_new w cs T j
  · intro j
    rw [hb.cell (p := ⟨w.heap.size + 1, j, none⟩) (by simp)]
    have := cell_new (w.alloc (.cells cs T)) cs' T' j
    rwa [show (w.alloc (.cells cs T)).heap.size = w.heap.size + 1 by simp] at this
/-- The nine cells of a message in a new box. -/
theorem boxM {w w1 : World} {c0 c1 c2 c3 c4 c5 c6 c7 c8 : Value} {T : TypeId} (hb : Below (w.alloc (.cells #[c0, c1, c2, c3, c4, c5, c6, c7, c8] T)).heap.size (w.alloc (.cells #[c0, c1, c2, c3, c4, c5, c6, c7, c8] T)) w1) :
    w1.cell? ⟨w.heap.size, 0, none⟩ = some c0 ∧ w1.cell? ⟨w.heap.size, 1, none⟩ = some c1 ∧ w1.cell? ⟨w.heap.size, 2, none⟩ = some c2 ∧ w1.cell? ⟨w.heap.size, 3, none⟩ = some c3 ∧ w1.cell? ⟨w.heap.size, 4, none⟩ = some c4 ∧
      w1.cell? ⟨w.heap.size, 5, none⟩ = some c5 ∧ w1.cell? ⟨w.heap.size, 6, none⟩ = some c6 ∧ w1.cell? ⟨w.heap.size, 7, none⟩ = some c7 ∧ w1.cell? ⟨w.heap.size, 8, none⟩ = some c8 :=
  ⟨box1 hb 0, box1 hb 1, box1 hb 2, box1 hb 3, box1 hb 4, box1 hb 5, box1 hb 6, box1 hb 7, box1 hb 8⟩
end Go.Proofs.Ytmcnanoamgkljaa
/- Whether two slices of addresses are the same: slices.Equal, and the document's own answer (stolonref01.Rows). -/
namespace Go.Proofs.Ytmcnanoamgkljaa
set_option linter.unusedVariables false
open Go.RowKit

theorem lEq0 (a b : Option Addr) (c d : Nat) (w : World) :
    Calls Try.prog 33 #[.slice a 0 c, .slice b 0 d] w fun e w' => e = .returned (.bool true) ∧ Below w.heap.size w w' := by
  go_enter Try.func33, Try.ntmps33
  go_wp2
  refine wp_loop_rounds 1 ?_
  rw [rounds_succ]
  go_wp2
  go_ret
  exact ⟨rfl, Below.refl _ _⟩
theorem lEqNe (a b : Option Addr) (n m c d : Nat) (w : World) (h : n ≠ m) :
    Calls Try.prog 33 #[.slice a n c, .slice b m d] w fun e w' => e = .returned (.bool false) ∧ Below w.heap.size w w' := by
  have hne : ((n : Int) != (m : Int)) = true := by rw [bne_iff_ne]; omega
  have HN := Lib.hid h
  clear h
  go_enter Try.func33, Try.ntmps33
  go_wp2
  go_ret
  exact ⟨rfl, Below.refl _ _⟩

set_option maxHeartbeats 1000000 in
theorem lEq1 (b1 o1 b2 o2 n c d : Nat) (xs ys : List Int) (w : World) (hx : xs.length = n) (hy : ys.length = n) (hm : n ≤ 9223372036854775807)
    (h1 : ∀ k, k < n → w.cell? ⟨b1, o1 + k, none⟩ = some (.int .u32 (xs.getD k 0))) (h2 : ∀ k, k < n → w.cell? ⟨b2, o2 + k, none⟩ = some (.int .u32 (ys.getD k 0))) :
    Calls Try.prog 33 #[.slice (some ⟨b1, o1, none⟩) n c, .slice (some ⟨b2, o2, none⟩) n d] w fun e w' => e = .returned (.bool (decide (xs = ys))) ∧ Below w.heap.size w w' := by
  have hne : ((n : Int) != (n : Int)) = false := by simp
  have HX := Lib.hid hx
  have HY := Lib.hid hy
  have H1 := Lib.hid h1
  have H2 := Lib.hid h2
  clear hx hy h1 h2
  go_enter Try.func33, Try.ntmps33
  go_wp2
  go_loopw [13] (fun i wr => ∃ k q : Nat, k ≤ n ∧ i = .int .i64 k ∧ PreA xs ys k ∧ wr = w.drewN q) (fun i _ => n - (intOf i).toNat)
  case atStart => exact ⟨0, 0, by omega, rfl, preA0 xs ys, rfl⟩
  case round =>
    obtain ⟨k, q, hk, rfl, hpre, rfl⟩ := hrel
    have HP := Lib.hid hpre
    clear hpre
    by_cases hlt : k < n
    · have c1 : ∀ q, (w.drewN q).cell? ⟨b1, o1 + k, none⟩ = some (.int .u32 (xs.getD k 0)) := fun q => H1.out k hlt
      have c2 : ∀ q, (w.drewN q).cell? ⟨b2, o2 + k, none⟩ = some (.int .u32 (ys.getD k 0)) := fun q => H2.out k hlt
      have i1 : (0 : Int) ≤ (k : Int) := by omega
      have i2 : (k : Int) < (n : Int) := by omega
      generalize hxk : xs.getD k 0 = x at *
      generalize hyk : ys.getD k 0 = y at *
      have HXK := Lib.hid hxk
      have HYK := Lib.hid hyk
      clear hxk hyk
      by_cases hxy : x = y
      · have hb : ((x : Int) != y) = false := by simp [hxy]
        have HXY := Lib.hid hxy
        clear hxy
        go_wp2
        go_quiet (fail)
        go_wp2
        go_roundw
        case rel => exact ⟨k + 1, _, by omega, by go_num, preA_step HP.out (HXK.out.trans (HXY.out.trans HYK.out.symm)), rfl⟩
        case measure => simp [intOf]; omega
      · have hb : ((x : Int) == y) = false := by simp [hxy]
        have hb' : ((x : Int) != y) = true := by simp [hxy]
        have hfin : decide (xs = ys) = false := by
          rw [decide_eq_false_iff_not]
          intro e; subst e; exact hxy (HXK.out.symm.trans HYK.out)
        have HF := Lib.hid hfin
        clear hxy hfin
        go_wp2
        go_quiet (fail)
        go_wp2
        go_ret
        exact ⟨congrArg (fun b => Ending.returned (Value.bool b)) HF.out.symm, bdrawn (bdrawn (Below.refl _ _) _) _⟩
    · obtain rfl : k = n := by omega
      have hfin : decide (xs = ys) = true := by
        rw [decide_eq_true_eq]
        exact preA_ext HX.out HY.out HP.out
      have HF := Lib.hid hfin
      clear hfin
      go_wp2
      go_ret
      exact ⟨congrArg (fun b => Ending.returned (Value.bool b)) HF.out.symm, bdrawn (Below.refl _ _) _⟩

/-- Two slices of addresses, whatever they are (slices.Equal). -/
theorem lEq (a b : Option Addr) (n m c d : Nat) (xs ys : List Int) (w : World) (hx : xs.length = n) (hy : ys.length = m) (hm : n ≤ 9223372036854775807) (h1 : As w a xs) (h2 : As w b ys) :
    Calls Try.prog 33 #[.slice a n c, .slice b m d] w fun e w' => e = .returned (.bool (decide (xs = ys))) ∧ Below w.heap.size w w' := by
  by_cases hnm : n = m
  · subst hnm
    rcases h1.1 with rfl | ⟨b1, o1, rfl, c1⟩
    · obtain rfl : n = 0 := by simpa using hx.symm
      obtain rfl : ys = [] := List.eq_nil_of_length_eq_zero hy
      exact lEq0 a b c d w
    · rcases h2.1 with rfl | ⟨b2, o2, rfl, c2⟩
      · obtain rfl : n = 0 := by simpa using hy.symm
        obtain rfl : xs = [] := List.eq_nil_of_length_eq_zero hx
        exact lEq0 _ b c d w
      · exact lEq1 b1 o1 b2 o2 n c d xs ys w hx hy hm (fun k hk => c1 k (by omega)) (fun k hk => c2 k (by omega))
  · have e : decide (xs = ys) = false := by
      rw [decide_eq_false_iff_not]
      intro e; subst e; omega
    rw [e]
    exact lEqNe a b n m c d w hnm

theorem rRows0 (a b : Option Addr) (c d : Nat) (w : World) :
    Calls Try.prog 36 #[.slice a 0 c, .slice b 0 d] w fun e w' => e = .returned (.bool true) ∧ Below w.heap.size w w' := by
  go_enter Try.func36, Try.ntmps36
  go_wp2
  refine wp_loop_rounds 1 ?_
  rw [rounds_succ]
  go_wp2
  go_ret
  exact ⟨rfl, Below.refl _ _⟩
theorem rRowsNe (a b : Option Addr) (n m c d : Nat) (w : World) (h : n ≠ m) :
    Calls Try.prog 36 #[.slice a n c, .slice b m d] w fun e w' => e = .returned (.bool false) ∧ Below w.heap.size w w' := by
  have hne : ((n : Int) != (m : Int)) = true := by rw [bne_iff_ne]; omega
  have HN := Lib.hid h
  clear h
  go_enter Try.func36, Try.ntmps36
  go_wp2
  go_ret
  exact ⟨rfl, Below.refl _ _⟩

set_option maxHeartbeats 1000000 in
theorem rRows1 (b1 o1 b2 o2 n c d : Nat) (xs ys : List Int) (w : World) (hx : xs.length = n) (hy : ys.length = n) (hm : n ≤ 9223372036854775807)
    (h1 : ∀ k, k < n → w.cell? ⟨b1, o1 + k, none⟩ = some (.int .u32 (xs.getD k 0))) (h2 : ∀ k, k < n → w.cell? ⟨b2, o2 + k, none⟩ = some (.int .u32 (ys.getD k 0))) :
    Calls Try.prog 36 #[.slice (some ⟨b1, o1, none⟩) n c, .slice (some ⟨b2, o2, none⟩) n d] w fun e w' => e = .returned (.bool (decide (xs = ys))) ∧ Below w.heap.size w w' := by
  have hne : ((n : Int) != (n : Int)) = false := by simp
  have HX := Lib.hid hx
  have HY := Lib.hid hy
  have H1 := Lib.hid h1
  have H2 := Lib.hid h2
  clear hx hy h1 h2
  go_enter Try.func36, Try.ntmps36
  go_wp2
  go_loopw [5] (fun i wr => ∃ k q : Nat, k ≤ n ∧ i = .int .i64 k ∧ PreA xs ys k ∧ wr = w.drewN q) (fun i _ => n - (intOf i).toNat)
  case atStart => exact ⟨0, 0, by omega, rfl, preA0 xs ys, rfl⟩
  case round =>
    obtain ⟨k, q, hk, rfl, hpre, rfl⟩ := hrel
    have HP := Lib.hid hpre
    clear hpre
    by_cases hlt : k < n
    · have c1 : ∀ q, (w.drewN q).cell? ⟨b1, o1 + k, none⟩ = some (.int .u32 (xs.getD k 0)) := fun q => H1.out k hlt
      have c2 : ∀ q, (w.drewN q).cell? ⟨b2, o2 + k, none⟩ = some (.int .u32 (ys.getD k 0)) := fun q => H2.out k hlt
      have i1 : (0 : Int) ≤ (k : Int) := by omega
      have i2 : (k : Int) < (n : Int) := by omega
      generalize hxk : xs.getD k 0 = x at *
      generalize hyk : ys.getD k 0 = y at *
      have HXK := Lib.hid hxk
      have HYK := Lib.hid hyk
      clear hxk hyk
      by_cases hxy : x = y
      · have hb : ((x : Int) != y) = false := by simp [hxy]
        have HXY := Lib.hid hxy
        clear hxy
        go_wp2
        go_quiet (fail)
        go_wp2
        go_roundw
        case rel => exact ⟨k + 1, _, by omega, by go_num, preA_step HP.out (HXK.out.trans (HXY.out.trans HYK.out.symm)), rfl⟩
        case measure => simp [intOf]; omega
      · have hb : ((x : Int) == y) = false := by simp [hxy]
        have hb' : ((x : Int) != y) = true := by simp [hxy]
        have hfin : decide (xs = ys) = false := by
          rw [decide_eq_false_iff_not]
          intro e; subst e; exact hxy (HXK.out.symm.trans HYK.out)
        have HF := Lib.hid hfin
        clear hxy hfin
        go_wp2
        go_quiet (fail)
        go_wp2
        go_ret
        exact ⟨congrArg (fun b => Ending.returned (Value.bool b)) HF.out.symm, bdrawn (bdrawn (Below.refl _ _) _) _⟩
    · obtain rfl : k = n := by omega
      have hfin : decide (xs = ys) = true := by
        rw [decide_eq_true_eq]
        exact preA_ext HX.out HY.out HP.out
      have HF := Lib.hid hfin
      clear hfin
      go_wp2
      go_ret
      exact ⟨congrArg (fun b => Ending.returned (Value.bool b)) HF.out.symm, bdrawn (Below.refl _ _) _⟩

/-- Two slices of addresses, whatever they are (stolonref01.Rows). -/
theorem rRows (a b : Option Addr) (n m c d : Nat) (xs ys : List Int) (w : World) (hx : xs.length = n) (hy : ys.length = m) (hm : n ≤ 9223372036854775807) (h1 : As w a xs) (h2 : As w b ys) :
    Calls Try.prog 36 #[.slice a n c, .slice b m d] w fun e w' => e = .returned (.bool (decide (xs = ys))) ∧ Below w.heap.size w w' := by
  by_cases hnm : n = m
  · subst hnm
    rcases h1.1 with rfl | ⟨b1, o1, rfl, c1⟩
    · obtain rfl : n = 0 := by simpa using hx.symm
      obtain rfl : ys = [] := List.eq_nil_of_length_eq_zero hy
      exact rRows0 a b c d w
    · rcases h2.1 with rfl | ⟨b2, o2, rfl, c2⟩
      · obtain rfl : n = 0 := by simpa using hy.symm
        obtain rfl : xs = [] := List.eq_nil_of_length_eq_zero hx
        exact rRows0 _ b c d w
      · exact rRows1 b1 o1 b2 o2 n c d xs ys w hx hy hm (fun k hk => c1 k (by omega)) (fun k hk => c2 k (by omega))
  · have e : decide (xs = ys) = false := by
      rw [decide_eq_false_iff_not]
      intro e; subst e; omega
    rw [e]
    exact rRowsNe a b n m c d w hnm
end Go.Proofs.Ytmcnanoamgkljaa
/- Whether two records are the same: igmp.isSame, and the document's own answer (stolonref05.Rec). -/
namespace Go.Proofs.Ytmcnanoamgkljaa
set_option linter.unusedVariables false
open Go.RowKit

set_option maxHeartbeats 1000000 in
theorem gSameR (x y : Rec) (a b : Option Addr) (c d : Nat) (w : World) (h1 : As w a x.srcs) (h2 : As w b y.srcs) (hl : x.srcs.length ≤ 1125899906842624) :
    Calls Try.prog 35 #[.agg #[.int .u8 x.typ, .int .u32 x.grp, .slice a x.srcs.length c], .agg #[.int .u8 y.typ, .int .u32 y.grp, .slice b y.srcs.length d]] w fun e w' => e = .returned (.bool (sameR x y)) ∧ Below w.heap.size w w' := by
  obtain ⟨t, g, s⟩ := x
  obtain ⟨t', g', s'⟩ := y
  simp only at h1 h2 hl ⊢
  by_cases e1 : t = t'
  · by_cases e2 : g = g'
    · subst e1 e2
      have e : sameR ⟨t, g, s⟩ ⟨t, g, s'⟩ = decide (s = s') := by simp [sameR]
      rw [e]
      have H1 := Lib.hid h1
      have H2 := Lib.hid h2
      have HL := Lib.hid hl
      have f1 : ((t : Int) == t) = true := by simp
      have f2 : ((g : Int) == g) = true := by simp
      clear h1 h2 hl e
      go_enter Try.func35, Try.ntmps35
      go_wp2_with (first | (go_at_call 33; refine (lEq a b _ _ c d s s' _ rfl rfl (by have := HL.out; omega) (H1.out.below (bel2 _ _ _)) (H2.out.below (bel2 _ _ _))).mono ?_; rintro e w1 ⟨rfl, hb⟩; have HB := Lib.hid hb; clear hb))
      go_ret
      exact ⟨rfl, bel_up (bel2 _ _ _) HB.out⟩
    · have e : sameR ⟨t, g, s⟩ ⟨t', g', s'⟩ = false := by simp [sameR, e2]
      rw [e]
      have f1 : ((t : Int) == t') = true := by simp [e1]
      have f2 : ((g : Int) == g') = false := by simp [e2]
      clear h1 h2 hl e e1 e2
      go_enter Try.func35, Try.ntmps35
      go_wp2
      go_ret
      exact ⟨rfl, bel2 _ _ _⟩
  · have e : sameR ⟨t, g, s⟩ ⟨t', g', s'⟩ = false := by simp [sameR, e1]
    rw [e]
    have f1 : ((t : Int) == t') = false := by simp [e1]
    clear h1 h2 hl e e1
    go_enter Try.func35, Try.ntmps35
    go_wp2
    go_ret
    exact ⟨rfl, bel2 _ _ _⟩

set_option maxHeartbeats 1000000 in
theorem rRec (x y : Rec) (a b : Option Addr) (c d : Nat) (w : World) (h1 : As w a x.srcs) (h2 : As w b y.srcs) (hl : x.srcs.length ≤ 1125899906842624) :
    Calls Try.prog 54 #[.agg #[.int .u8 x.typ, .int .u32 x.grp, .slice a x.srcs.length c], .agg #[.int .u8 y.typ, .int .u32 y.grp, .slice b y.srcs.length d]] w fun e w' => e = .returned (.bool (sameR x y)) ∧ Below w.heap.size w w' := by
  obtain ⟨t, g, s⟩ := x
  obtain ⟨t', g', s'⟩ := y
  simp only at h1 h2 hl ⊢
  by_cases e1 : t = t'
  · by_cases e2 : g = g'
    · subst e1 e2
      have e : sameR ⟨t, g, s⟩ ⟨t, g, s'⟩ = decide (s = s') := by simp [sameR]
      rw [e]
      have H1 := Lib.hid h1
      have H2 := Lib.hid h2
      have HL := Lib.hid hl
      have f1 : ((t : Int) == t) = true := by simp
      have f2 : ((g : Int) == g) = true := by simp
      clear h1 h2 hl e
      go_enter Try.func54, Try.ntmps54
      go_wp2_with (first | (go_at_call 36; refine (rRows a b _ _ c d s s' _ rfl rfl (by have := HL.out; omega) (H1.out.below (bel2 _ _ _)) (H2.out.below (bel2 _ _ _))).mono ?_; rintro e w1 ⟨rfl, hb⟩; have HB := Lib.hid hb; clear hb))
      go_ret
      exact ⟨rfl, bel_up (bel2 _ _ _) HB.out⟩
    · have e : sameR ⟨t, g, s⟩ ⟨t', g', s'⟩ = false := by simp [sameR, e2]
      rw [e]
      have f1 : ((t : Int) == t') = true := by simp [e1]
      have f2 : ((g : Int) == g') = false := by simp [e2]
      clear h1 h2 hl e e1 e2
      go_enter Try.func54, Try.ntmps54
      go_wp2
      go_ret
      exact ⟨rfl, bel2 _ _ _⟩
  · have e : sameR ⟨t, g, s⟩ ⟨t', g', s'⟩ = false := by simp [sameR, e1]
    rw [e]
    have f1 : ((t : Int) == t') = false := by simp [e1]
    clear h1 h2 hl e e1
    go_enter Try.func54, Try.ntmps54
    go_wp2
    go_ret
    exact ⟨rfl, bel2 _ _ _⟩
end Go.Proofs.Ytmcnanoamgkljaa
/- Whether two slices of records are the same: slices.EqualFunc, and the document's own answer (stolonref05.Recs). -/
namespace Go.Proofs.Ytmcnanoamgkljaa
set_option linter.unusedVariables false
open Go.RowKit

theorem lEqF0 (a b : Option Addr) (c d : Nat) (w : World) :
    Calls Try.prog 34 #[.slice a 0 c, .slice b 0 d, .func (.func 35) #[] #[]] w fun e w' => e = .returned (.bool true) ∧ Below w.heap.size w w' := by
  go_enter Try.func34, Try.ntmps34
  go_wp2
  refine wp_loop_rounds 1 ?_
  rw [rounds_succ]
  go_wp2
  go_ret
  exact ⟨rfl, Below.refl _ _⟩
theorem lEqFNe (a b : Option Addr) (n m c d : Nat) (w : World) (h : n ≠ m) :
    Calls Try.prog 34 #[.slice a n c, .slice b m d, .func (.func 35) #[] #[]] w fun e w' => e = .returned (.bool false) ∧ Below w.heap.size w w' := by
  have hne : ((n : Int) != (m : Int)) = true := by rw [bne_iff_ne]; omega
  have HN := Lib.hid h
  clear h
  go_enter Try.func34, Try.ntmps34
  go_wp2
  go_ret
  exact ⟨rfl, Below.refl _ _⟩

set_option maxHeartbeats 1000000 in
theorem lEqF1 (b1 o1 b2 o2 n c d : Nat) (xs ys : List Rec) (w : World) (hx : xs.length = n) (hy : ys.length = n) (hm : n ≤ 1125899906842624)
    (h1 : ∀ (k : Nat) r, xs[k]? = some r → RecAt w b1 (o1 + k * 3) r) (h2 : ∀ (k : Nat) r, ys[k]? = some r → RecAt w b2 (o2 + k * 3) r) :
    Calls Try.prog 34 #[.slice (some ⟨b1, o1, none⟩) n c, .slice (some ⟨b2, o2, none⟩) n d, .func (.func 35) #[] #[]] w fun e w' => e = .returned (.bool (sameL xs ys)) ∧ Below w.heap.size w w' := by
  have hne : ((n : Int) != (n : Int)) = false := by simp
  have HX := Lib.hid hx
  have HY := Lib.hid hy
  have H1 := Lib.hid h1
  have H2 := Lib.hid h2
  clear hx hy h1 h2
  go_enter Try.func34, Try.ntmps34
  go_wp2
  go_loopw [17] (fun i wr => ∃ k : Nat, k ≤ n ∧ i = .int .i64 k ∧ Pre xs ys k ∧ Below w.heap.size w wr) (fun i _ => n - (intOf i).toNat)
  case atStart => exact ⟨0, by omega, rfl, pre0 xs ys, Below.refl _ _⟩
  case round =>
    obtain ⟨k, hk, rfl, hpre, hbel⟩ := hrel
    have HP := Lib.hid hpre
    have HB := Lib.hid hbel
    clear hpre hbel
    by_cases hlt : k < n
    · obtain ⟨x, hxk⟩ : ∃ x, xs[k]? = some x := ⟨_, List.getElem?_eq_getElem (by have := HX.out; omega)⟩
      obtain ⟨y, hyk⟩ : ∃ y, ys[k]? = some y := ⟨_, List.getElem?_eq_getElem (by have := HY.out; omega)⟩
      obtain ⟨ax, cx, x0, x1, x2, hxa, _, _, hxl⟩ := (H1.out k x hxk).below HB.out
      obtain ⟨ay, cy, y0, y1, y2, hya, _, _, hyl⟩ := (H2.out k y hyk).below HB.out
      have l1 := cell_lt x0
      have l2 := cell_lt y0
      simp only at l1 l2
      have i1 : (0 : Int) ≤ (k : Int) := by omega
      have i2 : (k : Int) < (n : Int) := by omega
      have HXK := Lib.hid hxk
      have HYK := Lib.hid hyk
      have HXA := Lib.hid hxa
      have HYA := Lib.hid hya
      have HXL := Lib.hid hxl
      clear hxk hyk hxa hya hxl hyl
      obtain ⟨s, hs⟩ : ∃ s, s = sameR x y := ⟨_, rfl⟩
      cases s with
      | true =>
        have HS := Lib.hid hs
        clear hs
        go_wp2_with (first | (go_at_call 35; refine (gSameR x y ax ay cx cy _ (HXA.out.below (bel2 _ _ _)) (HYA.out.below (bel2 _ _ _)) HXL.out).mono ?_; rintro e w1 ⟨rfl, hb⟩; rw [← HS.out]; have HB2 := Lib.hid (bel_up HB.out (bel_up (bel2 _ _ _) hb)); clear hb))
        go_roundw
        case rel => exact ⟨k + 1, by omega, by go_num, pre_next HP.out HXK.out HYK.out HS.out.symm, HB2.out⟩
        case measure => simp [intOf]; omega
      | false =>
        have HS := Lib.hid hs
        clear hs
        go_wp2_with (first | (go_at_call 35; refine (gSameR x y ax ay cx cy _ (HXA.out.below (bel2 _ _ _)) (HYA.out.below (bel2 _ _ _)) HXL.out).mono ?_; rintro e w1 ⟨rfl, hb⟩; rw [← HS.out]; have HB2 := Lib.hid (bel_up HB.out (bel_up (bel2 _ _ _) hb)); clear hb))
        go_ret
        exact ⟨congrArg (fun b => Ending.returned (Value.bool b)) (pre_not HXK.out HYK.out HS.out.symm).symm, HB2.out⟩
    · obtain rfl : k = n := by omega
      have HF := Lib.hid (pre_all HX.out HY.out HP.out)
      go_wp2
      go_ret
      exact ⟨congrArg (fun b => Ending.returned (Value.bool b)) HF.out.symm, HB.out⟩

/-- Two slices of records, whatever they are. -/
theorem lEqF (a b : Option Addr) (c d : Nat) (xs ys : List Rec) (w : World) (hm : xs.length ≤ 1125899906842624) (h1 : Rs w a xs) (h2 : Rs w b ys) :
    Calls Try.prog 34 #[.slice a xs.length c, .slice b ys.length d, .func (.func 35) #[] #[]] w fun e w' => e = .returned (.bool (sameL xs ys)) ∧ Below w.heap.size w w' := by
  by_cases hnm : xs.length = ys.length
  · rcases h1 with rfl | ⟨b1, o1, rfl, c1⟩
    · obtain rfl : ys = [] := List.eq_nil_of_length_eq_zero hnm.symm
      exact lEqF0 a b c d w
    · rcases h2 with rfl | ⟨b2, o2, rfl, c2⟩
      · obtain rfl : xs = [] := List.eq_nil_of_length_eq_zero hnm
        exact lEqF0 _ b c d w
      · rw [← hnm]
        exact lEqF1 b1 o1 b2 o2 _ c d xs ys w rfl hnm.symm hm c1 c2
  · rw [sameL_len hnm]
    exact lEqFNe a b _ _ c d w hnm
end Go.Proofs.Ytmcnanoamgkljaa
/- Whether two slices of records are the same: the document's own answer (stolonref05.Recs). -/
namespace Go.Proofs.Ytmcnanoamgkljaa
set_option linter.unusedVariables false
open Go.RowKit

theorem rRecs0 (a b : Option Addr) (c d : Nat) (w : World) :
    Calls Try.prog 37 #[.slice a 0 c, .slice b 0 d] w fun e w' => e = .returned (.bool true) ∧ Below w.heap.size w w' := by
  go_enter Try.func37, Try.ntmps37
  go_wp2
  refine wp_loop_rounds 1 ?_
  rw [rounds_succ]
  go_wp2
  go_ret
  exact ⟨rfl, Below.refl _ _⟩
theorem rRecsNe (a b : Option Addr) (n m c d : Nat) (w : World) (h : n ≠ m) :
    Calls Try.prog 37 #[.slice a n c, .slice b m d] w fun e w' => e = .returned (.bool false) ∧ Below w.heap.size w w' := by
  have hne : ((n : Int) != (m : Int)) = true := by rw [bne_iff_ne]; omega
  have HN := Lib.hid h
  clear h
  go_enter Try.func37, Try.ntmps37
  go_wp2
  go_ret
  exact ⟨rfl, Below.refl _ _⟩

set_option maxHeartbeats 1000000 in
theorem rRecs1 (b1 o1 b2 o2 n c d : Nat) (xs ys : List Rec) (w : World) (hx : xs.length = n) (hy : ys.length = n) (hm : n ≤ 1125899906842624)
    (h1 : ∀ (k : Nat) r, xs[k]? = some r → RecAt w b1 (o1 + k * 3) r) (h2 : ∀ (k : Nat) r, ys[k]? = some r → RecAt w b2 (o2 + k * 3) r) :
    Calls Try.prog 37 #[.slice (some ⟨b1, o1, none⟩) n c, .slice (some ⟨b2, o2, none⟩) n d] w fun e w' => e = .returned (.bool (sameL xs ys)) ∧ Below w.heap.size w w' := by
  have hne : ((n : Int) != (n : Int)) = false := by simp
  have HX := Lib.hid hx
  have HY := Lib.hid hy
  have H1 := Lib.hid h1
  have H2 := Lib.hid h2
  clear hx hy h1 h2
  go_enter Try.func37, Try.ntmps37
  go_wp2
  go_loopw [5] (fun i wr => ∃ k : Nat, k ≤ n ∧ i = .int .i64 k ∧ Pre xs ys k ∧ Below w.heap.size w wr) (fun i _ => n - (intOf i).toNat)
  case atStart => exact ⟨0, by omega, rfl, pre0 xs ys, Below.refl _ _⟩
  case round =>
    obtain ⟨k, hk, rfl, hpre, hbel⟩ := hrel
    have HP := Lib.hid hpre
    have HB := Lib.hid hbel
    clear hpre hbel
    by_cases hlt : k < n
    · obtain ⟨x, hxk⟩ : ∃ x, xs[k]? = some x := ⟨_, List.getElem?_eq_getElem (by have := HX.out; omega)⟩
      obtain ⟨y, hyk⟩ : ∃ y, ys[k]? = some y := ⟨_, List.getElem?_eq_getElem (by have := HY.out; omega)⟩
      obtain ⟨ax, cx, x0, x1, x2, hxa, _, _, hxl⟩ := (H1.out k x hxk).below HB.out
      obtain ⟨ay, cy, y0, y1, y2, hya, _, _, hyl⟩ := (H2.out k y hyk).below HB.out
      have l1 := cell_lt x0
      have l2 := cell_lt y0
      simp only at l1 l2
      have i1 : (0 : Int) ≤ (k : Int) := by omega
      have i2 : (k : Int) < (n : Int) := by omega
      have HXK := Lib.hid hxk
      have HYK := Lib.hid hyk
      have HXA := Lib.hid hxa
      have HYA := Lib.hid hya
      have HXL := Lib.hid hxl
      clear hxk hyk hxa hya hxl hyl
      obtain ⟨s, hs⟩ : ∃ s, s = sameR x y := ⟨_, rfl⟩
      cases s with
      | true =>
        have HS := Lib.hid hs
        clear hs
        go_wp2
        go_region_with (first | (go_at_call 54; refine (rRec x y ax ay cx cy _ (HXA.out.below (by first | exact (Below.refl _ _).drew | exact bdrawn (Below.refl _ _) _)) (HYA.out.below (by first | exact (Below.refl _ _).drew | exact bdrawn (Below.refl _ _) _)) HXL.out).mono ?_; rintro e w1 ⟨rfl, hb⟩; rw [← HS.out]; have HB2 := Lib.hid (bel_up HB.out (bel_up (by first | exact (Below.refl _ _).drew | exact bdrawn (Below.refl _ _) _) hb)); clear hb))
        all_goals
          go_wp2
          go_roundw
          case rel => exact ⟨k + 1, by omega, by go_num, pre_next HP.out HXK.out HYK.out HS.out.symm, HB2.out⟩
          case measure => simp [intOf]; omega
      | false =>
        have HS := Lib.hid hs
        clear hs
        go_wp2
        go_region_with (first | (go_at_call 54; refine (rRec x y ax ay cx cy _ (HXA.out.below (by first | exact (Below.refl _ _).drew | exact bdrawn (Below.refl _ _) _)) (HYA.out.below (by first | exact (Below.refl _ _).drew | exact bdrawn (Below.refl _ _) _)) HXL.out).mono ?_; rintro e w1 ⟨rfl, hb⟩; rw [← HS.out]; have HB2 := Lib.hid (bel_up HB.out (bel_up (by first | exact (Below.refl _ _).drew | exact bdrawn (Below.refl _ _) _) hb)); clear hb))
        all_goals
          go_wp2
          go_ret
          exact ⟨congrArg (fun b => Ending.returned (Value.bool b)) (pre_not HXK.out HYK.out HS.out.symm).symm, HB2.out⟩
    · obtain rfl : k = n := by omega
      have HF := Lib.hid (pre_all HX.out HY.out HP.out)
      go_wp2
      go_ret
      exact ⟨congrArg (fun b => Ending.returned (Value.bool b)) HF.out.symm, HB.out⟩

/-- Two slices of records, whatever they are. -/
theorem rRecs (a b : Option Addr) (c d : Nat) (xs ys : List Rec) (w : World) (hm : xs.length ≤ 1125899906842624) (h1 : Rs w a xs) (h2 : Rs w b ys) :
    Calls Try.prog 37 #[.slice a xs.length c, .slice b ys.length d] w fun e w' => e = .returned (.bool (sameL xs ys)) ∧ Below w.heap.size w w' := by
  by_cases hnm : xs.length = ys.length
  · rcases h1 with rfl | ⟨b1, o1, rfl, c1⟩
    · obtain rfl : ys = [] := List.eq_nil_of_length_eq_zero hnm.symm
      exact rRecs0 a b c d w
    · rcases h2 with rfl | ⟨b2, o2, rfl, c2⟩
      · obtain rfl : xs = [] := List.eq_nil_of_length_eq_zero hnm
        exact rRecs0 _ b c d w
      · rw [← hnm]
        exact rRecs1 b1 o1 b2 o2 _ c d xs ys w rfl hnm.symm hm c1 c2
  · rw [sameL_len hnm]
    exact rRecsNe a b _ _ c d w hnm
end Go.Proofs.Ytmcnanoamgkljaa
