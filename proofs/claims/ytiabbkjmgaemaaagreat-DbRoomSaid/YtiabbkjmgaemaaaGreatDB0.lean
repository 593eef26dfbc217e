/- Slices of bytes: what they hold, and the document's own answer to whether two are the same. -/
import Derived.Test.YtiabbkjmgaemaaaGreatChecked
import Derived.WalkKit
import Derived.WalkLawsBesides
import Derived.Outline
import Derived.OpenShut
import Derived.Below
import Derived.IntWalk
import Derived.Lib.Hide
import Derived.Deep.QuietTactic
import Derived.BigQuiet
import Derived.Deep.OwnRows
import Derived.Laws.CopyOwn
import Derived.Laws.AppendOwnNone
import Derived.Maps.AppendAt
namespace Go.Proofs.YtiabbkjmgaemaaaGreat
set_option linter.unusedVariables false
open Go.RowKit

/-- A slice of bytes. -/
def Bs (w : World) (a : Option Addr) (xs : List Int) : Prop := (xs = [] ∨ ∃ b off, a = some ⟨b, off, none⟩ ∧ ∀ k, k < xs.length → w.cell? ⟨b, off + k, none⟩ = some (.int .u8 (xs.getD k 0))) ∧ ∀ k, k < xs.length → 0 ≤ xs.getD k 0 ∧ xs.getD k 0 ≤ 255
theorem cell_lt {W : World} {a : Addr} {v : Value} (h : W.cell? a = some v) : a.block < W.heap.size := World.block_lt_of_cell? W a h
theorem bs_below {w w' : World} {a : Option Addr} {xs : List Int} (h : Bs w a xs) (hb : Below w.heap.size w w') : Bs w' a xs := by
  refine ⟨?_, h.2⟩
  rcases h.1 with h1 | ⟨b, off, e, hc⟩
  · exact .inl h1
  · refine .inr ⟨b, off, e, fun k hk => ?_⟩
    rw [hb.cell (p := ⟨b, off + k, none⟩) (cell_lt (hc k hk))]
    exact hc k hk
theorem ret_v {a b : Value} (h : a = b) : Ending.returned a = .returned b := by rw [h]
theorem ret_int {k : IntKind} {a b : Int} (h : a = b) : Ending.returned (.int k a) = .returned (.int k b) := by rw [h]
theorem ret_bool {a b : Bool} (h : a = b) : Ending.returned (.bool a) = .returned (.bool b) := by rw [h]
theorem bdrawn {B : Nat} {a w : World} (h : Below B a w) (n : Nat) : Below B a (w.drewN n) := h.trans ⟨rfl, rfl, rfl, Nat.le_refl _, fun _ _ => rfl⟩
theorem bcell {W w1 : World} (hb : Below W.heap.size W w1) : (∀ b o, b < W.heap.size → w1.cell? ⟨b, o, none⟩ = W.cell? ⟨b, o, none⟩) ∧ (∀ b o, b < W.heap.size → w1.frozen? ⟨b, o, none⟩ = W.frozen? ⟨b, o, none⟩) :=
  ⟨fun b o h => hb.cell (p := ⟨b, o, none⟩) h, fun b o h => hb.frozen (p := ⟨b, o, none⟩) h⟩
end Go.Proofs.YtiabbkjmgaemaaaGreat
/- Slices of addresses: what they hold; rows of a call's own; all blocks but one. -/
namespace Go.Proofs.YtiabbkjmgaemaaaGreat
set_option linter.unusedVariables false
open Go.RowKit

theorem add_flat (b o j : Nat) : (⟨b, o, none⟩ : Addr).add j = ⟨b, o + j, none⟩ := by simp [Addr.add]
def IsA (l : List Int) : Prop := ∀ k, k < l.length → 0 ≤ l.getD k 0 ∧ l.getD k 0 ≤ 4294967295
/-- A slice of addresses. -/
def As (w : World) (a : Option Addr) (xs : List Int) : Prop := (xs = [] ∨ ∃ b off, a = some ⟨b, off, none⟩ ∧ ∀ k, k < xs.length → w.cell? ⟨b, off + k, none⟩ = some (.int .u32 (xs.getD k 0))) ∧ ∀ k, k < xs.length → 0 ≤ xs.getD k 0 ∧ xs.getD k 0 ≤ 4294967295
theorem As.below {w w' : World} {a : Option Addr} {xs : List Int} (h : As w a xs) (hb : Below w.heap.size w w') : As w' a xs := by
  refine ⟨?_, h.2⟩
  rcases h.1 with h1 | ⟨b, off, e, hc⟩
  · exact .inl h1
  · refine .inr ⟨b, off, e, fun k hk => ?_⟩
    rw [hb.cell (p := ⟨b, off + k, none⟩) (cell_lt (hc k hk))]
    exact hc k hk
theorem As.nil (w : World) (a : Option Addr) : As w a [] := ⟨.inl rfl, fun k h => absurd h (by simp)⟩
def PreA (xs ys : List Int) (k : Nat) : Prop := ∀ j, j < k → xs.getD j 0 = ys.getD j 0
theorem preA0 (xs ys : List Int) : PreA xs ys 0 := fun j h => absurd h (by omega)
theorem preA_step {xs ys : List Int} {k : Nat} (h : PreA xs ys k) (e : xs.getD k 0 = ys.getD k 0) : PreA xs ys (k + 1) := by
  intro j hj
  rcases Nat.lt_succ_iff_lt_or_eq.1 hj with hj | rfl
  · exact h j hj
  · exact e
theorem preA_ext {xs ys : List Int} {n : Nat} (hx : xs.length = n) (hy : ys.length = n) (h : PreA xs ys n) : xs = ys := by
  apply List.ext_getElem (hx.trans hy.symm)
  intro i h1 h2
  have := h i (by omega)
  simpa [List.getD_eq_getElem?_getD, h1, h2] using this
theorem bel1 (w : World) (o : Obj) : Below w.heap.size w (w.alloc o) := (Below.refl _ w).alloc (Nat.le_refl _) o
theorem bel2 (w : World) (o o' : Obj) : Below w.heap.size w ((w.alloc o).alloc o') := (bel1 w o).alloc (bel1 w o).size o'
theorem bel_up {w w1 w2 : World} (h : Below w.heap.size w w1) (k : Below w1.heap.size w1 w2) : Below w.heap.size w w2 := h.trans (k.mono h.size)
theorem cell_new (w : World) (cs : Array Value) (T : TypeId) (j : Nat) : (w.alloc (.cells cs T)).cell? ⟨w.heap.size, j, none⟩ = cs[j]? := by
  unfold World.cell?
  simp only [Go.Deep.blk_alloc_new]
  simp
theorem box1 {w w1 : World} {cs : Array Value} {T : TypeId} (hb : Below (w.alloc (.cells cs T)).heap.size (w.alloc (.cells cs T)) w1) (j : Nat) : w1.cell? ⟨w.heap.size, j, none⟩ = cs[j]? := by
  rw [hb.cell (p := ⟨w.heap.size, j, none⟩) (by simp)]
  exact cell_new w cs T j
theorem box2 {w w1 : World} {cs cs' : Array Value} {T T' : TypeId} (hb : Below ((w.alloc (.cells cs T)).alloc (.cells cs' T')).heap.size ((w.alloc (.cells cs T)).alloc (.cells cs' T')) w1) :
    (∀ j, w1.cell? ⟨w.heap.size, j, none⟩ = cs[j]?) ∧ (∀ j, w1.cell? ⟨w.heap.size + 1, j, none⟩ = cs'[j]?) := by
  constructor
  · intro j
    rw [hb.cell (p := ⟨w.heap.size, j, none⟩) (by simp; omega), World.cell?_alloc_lt _ _ _ (by simp)]
    exact cell_new w cs T j
  · intro j
    rw [hb.cell (p := ⟨w.heap.size + 1, j, none⟩) (by simp)]
    have := cell_new (w.alloc (.cells cs T)) cs' T' j
    rwa [show (w.alloc (.cells cs T)).heap.size = w.heap.size + 1 by simp] at this
/-- All blocks but R are as they were. -/
structure But1 (R : Nat) (w w' : World) : Prop where
  os : w'.os = w.os
  tape : w'.tape = w.tape
  output : w'.output = w.output
  size : w.heap.size ≤ w'.heap.size
  block : ∀ k, k < w.heap.size → k ≠ R → w'.heap[k]? = w.heap[k]?
namespace But1
variable {R B : Nat} {w w' w2 : World}
theorem refl (R : Nat) (w : World) : But1 R w w := ⟨rfl, rfl, rfl, Nat.le_refl _, fun _ _ _ => rfl⟩
theorem trans (h : But1 R w w') (k : But1 R w' w2) : But1 R w w2 :=
  ⟨k.os.trans h.os, k.tape.trans h.tape, k.output.trans h.output, Nat.le_trans h.size k.size, fun i hi hne => (k.block i (Nat.lt_of_lt_of_le hi h.size) hne).trans (h.block i hi hne)⟩
theorem of_below (h : Below w.heap.size w w') : But1 R w w' := ⟨h.os, h.tape, h.output, h.size, fun i hi _ => h.block i hi⟩
theorem below (h : But1 R w w') (hB : B ≤ R) (hS : B ≤ w.heap.size) : Below B w w' := ⟨h.os, h.tape, h.output, h.size, fun i hi => h.block i (Nat.lt_of_lt_of_le hi hS) (by omega)⟩
theorem set (w : World) (R j : Nat) (v : Value) : But1 R w (w.setCell ⟨R, j, none⟩ v) :=
  ⟨rfl, rfl, rfl, by simp [World.setCell], fun i _ hne => Below.heap_setCell w ⟨R, j, none⟩ v i hne⟩
theorem drewN (h : But1 R w w') (k : Nat) : But1 R w (w'.drewN k) := ⟨h.os, h.tape, h.output, h.size, h.block⟩
theorem cell (h : But1 R w w') {p : Addr} (hp : p.block < w.heap.size) (hne : p.block ≠ R) : w'.cell? p = w.cell? p := World.cell?_of_block (w := w) (h.block p.block hp hne)
end But1
theorem own_ge' {w : World} {B n size : Nat} {e : TypeId} {v : Value} {l : List Value} (h : w.ownsRow B e size v n l) : ∀ k, v.ownBlock = some k → B ≤ k := by
  intro k hk
  rcases h.2 with ⟨rfl, _⟩ | ⟨g, cap, cur, rfl, hB, _⟩
  · simp [Value.ownBlock] at hk
  · simp [Value.ownBlock] at hk
    omega
/-- append(own, one), whatever the element; what else there is stays as it was. -/
theorem wp_app_one {w : World} {o : Oper} {a : Act} {K : Act → World → Prop} {Q : Exit → Act → World → Prop} (t e : TypeId) (i0 : TypeInfo) (zv : Value) (size bytes : Nat) (hu : Tryz.prog.underlying t = some (.slice e)) (hi : Tryz.prog.info? e = some i0)
    (hz0 : i0.zero = some zv) (hz1 : i0.size = size) (hz2 : i0.bytes = bytes) (hzs : zv.cells.size = size) (hsz : 0 < size) (hby : bytes ≤ 1000) (s x : Operand)
    (ho : o.op = .call { callee := .builtin .append, args := #[s, x], argTypes := #[t, t] }) (B : Nat) (a1 : Option Addr) (n cap : Nat) (xs : List Value) (hs : a.eval s = .slice a1 n cap) (hown : w.ownsRow B e size (.slice a1 n cap) n xs)
    (ad : Addr) (c : Nat) (news : List Value) (hx : a.eval x = .slice (some ad) 1 c) (hl : news.length = 1 * size) (hnews : ∀ j u, news[j]? = some u → w.cell? (ad.add j) = some u) (h1 : ∀ u ∈ news, u.oneCell' = true) (hn : n ≤ 1000000) (hB : B ≤ w.heap.size)
    (h : ∀ a' cap' w', Hid (w'.ownsRow B e size (.slice a' (n + 1) cap') (n + 1) (xs ++ news)) → Hid (Below B w w') → Hid (∀ q, q < w.heap.size → a1 ≠ some ⟨q, 0, none⟩ → w'.heap[q]? = w.heap[q]? ∧ a' ≠ some ⟨q, 0, none⟩) → K (a.put o.dst (.slice a' (n + 1) cap')) w') : o.wp Tryz.prog a w K Q := by
  obtain ⟨v', w', hrun, hown', hgrow, _, hpl⟩ := run_append_own_at (P := Tryz.prog) w B t o.type e i0 zv size bytes hu hi hz0 hz1 hz2 hzs hsz _ n xs hown ad 1 c news hl hnews h1 (by unfold maxLen; omega) (by have : (n + 1) * bytes ≤ 1000001 * 1000 := Nat.mul_le_mul (by omega) hby; omega) hB
  unfold Oper.wp execOp
  simp only [ho, resolve, invoke, builtin, Sem.run_bind, Sem.run_pure, Result.andThen_ok, List.map_toArray, List.map_cons, List.map_nil, hs, hx, hrun]
  have hbel' : Below B w w' := (Below.refl B w).grown hgrow hB (own_ge' hown)
  have hst : ∀ q, q < w.heap.size → a1 ≠ some ⟨q, 0, none⟩ → w'.heap[q]? = w.heap[q]? ∧ v'.ownBlock ≠ some q := by
    intro q hq hne
    have h1 : (Value.slice a1 n cap).ownBlock ≠ some q := by
      rcases hown.2 with ⟨e, _⟩ | ⟨g, c', cur, e, _⟩
      · rw [e]; simp [Value.ownBlock]
      · rw [e]; simp only [Value.slice.injEq] at e
        obtain ⟨rfl, _⟩ := e
        simp only [Value.ownBlock]
        intro e2; simp at e2; subst e2; exact hne rfl
    refine ⟨hgrow.block q hq (fun e => h1 e.symm), ?_⟩
    rcases hpl with e | e
    · rw [e]; exact h1
    · rw [e]; simp; omega
  rcases hown'.2 with ⟨rfl, e0⟩ | ⟨g, cap', cur, rfl, _⟩
  · omega
  · exact h _ cap' w' hown' hbel' (fun q hq hne => ⟨(hst q hq hne).1, fun e => (hst q hq hne).2 (by simp at e; simp [Value.ownBlock, e])⟩)
theorem wpList_app_one {w : World} {ops : Array Oper} {rest : List Oper} {o : Oper} {a : Act} {Q : Exit → Act → World → Prop} (hgd : o.guard = none) (t e : TypeId) (i0 : TypeInfo) (zv : Value) (size bytes : Nat) (hu : Tryz.prog.underlying t = some (.slice e)) (hi : Tryz.prog.info? e = some i0)
    (hz0 : i0.zero = some zv) (hz1 : i0.size = size) (hz2 : i0.bytes = bytes) (hzs : zv.cells.size = size) (hsz : 0 < size) (hby : bytes ≤ 1000) (s x : Operand)
    (ho : o.op = .call { callee := .builtin .append, args := #[s, x], argTypes := #[t, t] }) (B : Nat) (a1 : Option Addr) (n cap : Nat) (xs : List Value) (hs : a.eval s = .slice a1 n cap) (hown : w.ownsRow B e size (.slice a1 n cap) n xs)
    (ad : Addr) (c : Nat) (news : List Value) (hx : a.eval x = .slice (some ad) 1 c) (hl : news.length = 1 * size) (hnews : ∀ j u, news[j]? = some u → w.cell? (ad.add j) = some u) (h1 : ∀ u ∈ news, u.oneCell' = true) (hn : n ≤ 1000000) (hB : B ≤ w.heap.size)
    (h : ∀ a' cap' w', Hid (w'.ownsRow B e size (.slice a' (n + 1) cap') (n + 1) (xs ++ news)) → Hid (Below B w w') → Hid (∀ q, q < w.heap.size → a1 ≠ some ⟨q, 0, none⟩ → w'.heap[q]? = w.heap[q]? ∧ a' ≠ some ⟨q, 0, none⟩) → wpList Tryz.prog ops Q rest (a.put o.dst (.slice a' (n + 1) cap')) w') : wpList Tryz.prog ops Q (o :: rest) a w :=
  wpList_plain hgd fun _ hK => wp_app_one t e i0 zv size bytes hu hi hz0 hz1 hz2 hzs hsz hby s x ho B a1 n cap xs hs hown ad c news hx hl hnews h1 hn hB fun a' cap' w' h1 h2 h3 => hK _ _ (h a' cap' w' h1 h2 h3)
theorem step_app_one {w : World} {ops : Array Oper} {o : Oper} {a : Act} {K : Act → World → Prop} {Q : Exit → Act → World → Prop} {E : Prop} (hgd : o.guard = none) (t e : TypeId) (i0 : TypeInfo) (zv : Value) (size bytes : Nat) (hu : Tryz.prog.underlying t = some (.slice e)) (hi : Tryz.prog.info? e = some i0)
    (hz0 : i0.zero = some zv) (hz1 : i0.size = size) (hz2 : i0.bytes = bytes) (hzs : zv.cells.size = size) (hsz : 0 < size) (hby : bytes ≤ 1000) (s x : Operand)
    (ho : o.op = .call { callee := .builtin .append, args := #[s, x], argTypes := #[t, t] }) (B : Nat) (a1 : Option Addr) (n cap : Nat) (xs : List Value) (hs : a.eval s = .slice a1 n cap) (hown : w.ownsRow B e size (.slice a1 n cap) n xs)
    (ad : Addr) (c : Nat) (news : List Value) (hx : a.eval x = .slice (some ad) 1 c) (hl : news.length = 1 * size) (hnews : ∀ j u, news[j]? = some u → w.cell? (ad.add j) = some u) (h1 : ∀ u ∈ news, u.oneCell' = true) (hn : n ≤ 1000000) (hB : B ≤ w.heap.size)
    (h : ∀ a' cap' w', Hid (w'.ownsRow B e size (.slice a' (n + 1) cap') (n + 1) (xs ++ news)) → Hid (Below B w w') → Hid (∀ q, q < w.heap.size → a1 ≠ some ⟨q, 0, none⟩ → w'.heap[q]? = w.heap[q]? ∧ a' ≠ some ⟨q, 0, none⟩) → K (a.put o.dst (.slice a' (n + 1) cap')) w') :
    if Region.wanted o (yielded ops a.tmps) = true then Oper.wp Tryz.prog o a w K Q else E := by
  have hw : Region.wanted o (yielded ops a.tmps) = true := by simp [Region.wanted, hgd]
  rw [if_pos hw]
  exact wp_app_one t e i0 zv size bytes hu hi hz0 hz1 hz2 hzs hsz hby s x ho B a1 n cap xs hs hown ad c news hx hl hnews h1 hn hB h
theorem one32 (x : Int) : ∀ u ∈ [Value.int .u32 x], u.oneCell' = true := by
  intro u hu
  simp at hu
  subst hu
  rfl
theorem news_new (w : World) (cs : List Value) (T : TypeId) : ∀ j u, cs[j]? = some u → (w.alloc (.cells cs.toArray T)).cell? ((⟨w.heap.size, 0, none⟩ : Addr).add j) = some u := by
  intro j u hu
  rw [add_flat, Nat.zero_add, cell_new]
  simpa using hu
theorem infoA : (Tryz.prog.info? 25).map (fun i => (i.zero, i.size, i.bytes)) = some (some (.int .u32 0), 1, 4) := by kernel_rfl
def va (xs : List Int) : List Value := xs.map (Value.int .u32)
theorem va_snoc (xs : List Int) (x : Int) : va (xs ++ [x]) = va xs ++ [.int .u32 x] := by simp [va]
theorem own_nil (w : World) (B : Nat) (e : TypeId) (size : Nat) : w.ownsRow B e size (.slice none 0 0) 0 [] := World.ownsRow_nil _ _ _ _
/-- Addresses in a block of the call's own. -/
def AsO (w : World) (B : Nat) (a : Option Addr) (xs : List Int) : Prop :=
  xs = [] ∨ ∃ g cur, a = some ⟨g, 0, none⟩ ∧ B ≤ g ∧ w.heap[g]? = some (.cells cur 25 (0, 0)) ∧ ∀ k, k < xs.length → cur[k]? = some (.int .u32 (xs.getD k 0))
theorem AsO.of {w : World} {B n cap : Nat} {a : Option Addr} {xs : List Int} (hn : xs.length = n) (h : w.ownsRow B 25 1 (.slice a n cap) n (va xs)) : AsO w B a xs := by
  by_cases h0 : n = 0
  · subst h0
    exact .inl (List.eq_nil_of_length_eq_zero hn)
  obtain ⟨hl, h⟩ := h
  rcases h with ⟨_, e⟩ | ⟨g, cap, cur, e, hB, hg, hnc, _, hsz, htk⟩
  · omega
  · simp at e
    refine .inr ⟨g, cur, e.1, hB, hg, fun i hi => ?_⟩
    have h1 : (cur.toList.take (n * 1))[i]? = some (.int .u32 (xs.getD i 0)) := by rw [htk]; simp [va, hi]
    rw [List.getElem?_take_of_lt (by omega)] at h1
    simpa using h1
theorem AsO.as {w : World} {B : Nat} {a : Option Addr} {xs : List Int} (h : AsO w B a xs) (hb : IsA xs) : As w a xs := by
  refine ⟨?_, hb⟩
  rcases h with h | ⟨g, cur, e, _, hg, hc⟩
  · exact .inl h
  · exact .inr ⟨g, 0, e, fun k hk => by rw [Nat.zero_add]; simp [World.cell?, hg, hc k hk]⟩
theorem AsO.keep {w w' : World} {B : Nat} {a : Option Addr} {xs : List Int} (h : AsO w B a xs) (hk : ∀ g cur, B ≤ g → w.heap[g]? = some (.cells cur 25 (0, 0)) → w'.heap[g]? = w.heap[g]?) : AsO w' B a xs := by
  rcases h with h | ⟨g, cur, e, hB, hg, hc⟩
  · exact .inl h
  · exact .inr ⟨g, cur, e, hB, (hk g cur hB hg).trans hg, hc⟩
theorem AsO.below {w w' : World} {B : Nat} {a : Option Addr} {xs : List Int} (h : AsO w B a xs) (hb : Below w.heap.size w w') : AsO w' B a xs := h.keep fun g cur _ hg => hb.block g (Array.getElem?_eq_some_iff.1 hg).1
theorem AsO.but {w w' : World} {B R : Nat} {a : Option Addr} {xs : List Int} (h : AsO w B a xs) (hb : But1 R w w') (hR : R < B) : AsO w' B a xs := h.keep fun g cur hB hg => hb.block g (Array.getElem?_eq_some_iff.1 hg).1 (by omega)
theorem AsO.mono {w : World} {B C : Nat} {a : Option Addr} {xs : List Int} (h : AsO w B a xs) (hC : C ≤ B) : AsO w C a xs := by
  rcases h with h | ⟨g, cur, e, hB, hg, hc⟩
  · exact .inl h
  · exact .inr ⟨g, cur, e, by omega, hg, hc⟩

theorem own_but {w w' : World} {B R n size : Nat} {e : TypeId} {v : Value} {xs : List Value} (h : w.ownsRow B e size v n xs) (hb : But1 R w w') (hR : R < B) : w'.ownsRow B e size v n xs := by
  refine ⟨h.1, ?_⟩
  rcases h.2 with e | ⟨g, c, cur, e, h1, h2, h3⟩
  · exact .inl e
  · exact .inr ⟨g, c, cur, e, h1, (hb.block g (Array.getElem?_eq_some_iff.1 h2).1 (by omega)).trans h2, h3⟩
end Go.Proofs.YtiabbkjmgaemaaaGreat
/- Whether two slices of addresses are the same: slices.Equal, set.Same, and the document's own answer (stolonref01.Rows). -/
namespace Go.Proofs.YtiabbkjmgaemaaaGreat
set_option linter.unusedVariables false
open Go.RowKit

theorem rRows0 (a b : Option Addr) (c d : Nat) (w : World) :
    Calls Tryz.prog 48 #[.slice a 0 c, .slice b 0 d] w fun e w' => e = .returned (.bool true) ∧ Below w.heap.size w w' := by
  go_enter Tryz.func48, Tryz.ntmps48
  go_wp2
  refine wp_loop_rounds 1 ?_
  rw [rounds_succ]
  go_wp2
  go_ret
  exact ⟨rfl, Below.refl _ _⟩
theorem rRowsNe (a b : Option Addr) (n m c d : Nat) (w : World) (h : n ≠ m) :
    Calls Tryz.prog 48 #[.slice a n c, .slice b m d] w fun e w' => e = .returned (.bool false) ∧ Below w.heap.size w w' := by
  have hne : ((n : Int) != (m : Int)) = true := by rw [bne_iff_ne]; omega
  have HN := Lib.hid h
  clear h
  go_enter Tryz.func48, Tryz.ntmps48
  go_wp2
  go_ret
  exact ⟨rfl, Below.refl _ _⟩

set_option maxHeartbeats 1000000 in
theorem rRows1 (b1 o1 b2 o2 n c d : Nat) (xs ys : List Int) (w : World) (hx : xs.length = n) (hy : ys.length = n) (hm : n ≤ 9223372036854775807)
    (h1 : ∀ k, k < n → w.cell? ⟨b1, o1 + k, none⟩ = some (.int .u32 (xs.getD k 0))) (h2 : ∀ k, k < n → w.cell? ⟨b2, o2 + k, none⟩ = some (.int .u32 (ys.getD k 0))) :
    Calls Tryz.prog 48 #[.slice (some ⟨b1, o1, none⟩) n c, .slice (some ⟨b2, o2, none⟩) n d] w fun e w' => e = .returned (.bool (decide (xs = ys))) ∧ Below w.heap.size w w' := by
  have hne : ((n : Int) != (n : Int)) = false := by simp
  have HX := Lib.hid hx
  have HY := Lib.hid hy
  have H1 := Lib.hid h1
  have H2 := Lib.hid h2
  clear hx hy h1 h2
  go_enter Tryz.func48, Tryz.ntmps48
  go_wp2
  go_loopw [5] (fun i wr => ∃ k q : Nat, k ≤ n ∧ i = .int .i64 k ∧ PreA xs ys k ∧ wr = w.drewN q) (fun i _ => n - (intOf i).toNat)
  case atStart => exact ⟨0, 0, by omega, rfl, preA0 xs ys, rfl⟩
  case round =>
    obtain ⟨k, q, hk, rfl, hpre, rfl⟩ := hrel
    have HP := Lib.hid hpre
    clear hpre
    by_cases hlt : k < n
    · have c1 : ∀ q, (w.drewN q).cell? ⟨b1, o1 + k, none⟩ = some (.int .u32 (xs.getD k 0)) := fun q => H1.out k hlt
      have c2 : ∀ q, (w.drewN q).cell? ⟨b2, o2 + k, none⟩ = some (.int .u32 (ys.getD k 0)) := fun q => H2.out k hlt
      have i1 : (0 : Int) ≤ (k : Int) := by omega
      have i2 : (k : Int) < (n : Int) := by omega
      generalize hxk : xs.getD k 0 = x at *
      generalize hyk : ys.getD k 0 = y at *
      have HXK := Lib.hid hxk
      have HYK := Lib.hid hyk
      clear hxk hyk
      by_cases hxy : x = y
      · have hb : ((x : Int) != y) = false := by simp [hxy]
        have HXY := Lib.hid hxy
        clear hxy
        go_wp2
        go_quiet (fail)
        go_wp2
        go_roundw
        case rel => exact ⟨k + 1, _, by omega, by go_num, preA_step HP.out (HXK.out.trans (HXY.out.trans HYK.out.symm)), rfl⟩
        case measure => simp [intOf]; omega
      · have hb : ((x : Int) == y) = false := by simp [hxy]
        have hb' : ((x : Int) != y) = true := by simp [hxy]
        have hfin : decide (xs = ys) = false := by
          rw [decide_eq_false_iff_not]
          intro e; subst e; exact hxy (HXK.out.symm.trans HYK.out)
        have HF := Lib.hid hfin
        clear hxy hfin
        go_wp2
        go_quiet (fail)
        go_wp2
        go_ret
        exact ⟨congrArg (fun b => Ending.returned (Value.bool b)) HF.out.symm, bdrawn (bdrawn (Below.refl _ _) _) _⟩
    · obtain rfl : k = n := by omega
      have hfin : decide (xs = ys) = true := by
        rw [decide_eq_true_eq]
        exact preA_ext HX.out HY.out HP.out
      have HF := Lib.hid hfin
      clear hfin
      go_wp2
      go_ret
      exact ⟨congrArg (fun b => Ending.returned (Value.bool b)) HF.out.symm, bdrawn (Below.refl _ _) _⟩

/-- Two slices of addresses, whatever they are (stolonref01.Rows). -/
theorem rRows (a b : Option Addr) (n m c d : Nat) (xs ys : List Int) (w : World) (hx : xs.length = n) (hy : ys.length = m) (hm : n ≤ 9223372036854775807) (h1 : As w a xs) (h2 : As w b ys) :
    Calls Tryz.prog 48 #[.slice a n c, .slice b m d] w fun e w' => e = .returned (.bool (decide (xs = ys))) ∧ Below w.heap.size w w' := by
  by_cases hnm : n = m
  · subst hnm
    rcases h1.1 with rfl | ⟨b1, o1, rfl, c1⟩
    · obtain rfl : n = 0 := by simpa using hx.symm
      obtain rfl : ys = [] := List.eq_nil_of_length_eq_zero hy
      exact rRows0 a b c d w
    · rcases h2.1 with rfl | ⟨b2, o2, rfl, c2⟩
      · obtain rfl : n = 0 := by simpa using hy.symm
        obtain rfl : xs = [] := List.eq_nil_of_length_eq_zero hx
        exact rRows0 _ b c d w
      · exact rRows1 b1 o1 b2 o2 n c d xs ys w hx hy hm (fun k hk => c1 k (by omega)) (fun k hk => c2 k (by omega))
  · have e : decide (xs = ys) = false := by
      rw [decide_eq_false_iff_not]
      intro e; subst e; omega
    rw [e]
    exact rRowsNe a b n m c d w hnm
end Go.Proofs.YtiabbkjmgaemaaaGreat
