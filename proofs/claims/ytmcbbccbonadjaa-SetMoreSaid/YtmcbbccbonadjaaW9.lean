/- A map whose keys are two marks: what it holds. -/
import Derived.Test.YtmcbbccbonadjaaW0
import Derived.Test.YtmcbbccbonadjaaW1
import Derived.Test.YtmcbbccbonadjaaW2
import Derived.Test.YtmcbbccbonadjaaW3
import Derived.Test.YtmcbbccbonadjaaW4
import Derived.Test.YtmcbbccbonadjaaW5
import Derived.Test.YtmcbbccbonadjaaW6
import Derived.Test.YtmcbbccbonadjaaW7
import Derived.Test.YtmcbbccbonadjaaW8
import Derived.MapKept
namespace Go.Proofs.Ytmcbbccbonadjaa
set_option linter.unusedVariables false
open Go.RowKit

abbrev K2 := Bool × Bool
def kv (k : K2) : Value := .agg #[.bool k.1, .bool k.2]
abbrev Ent := K2 × Value × Nat
def ent (x : Ent) : MapEntry := ⟨kv x.1, x.2.1, x.2.2⟩
def fnd (k : K2) : List Ent → Nat → Option (Nat × Value)
  | [], _ => none
  | x :: l, i => if x.1 = k then some (i, x.2.1) else fnd k l (i + 1)
def val (k : K2) : List Ent → Option Value
  | [] => none
  | x :: l => if x.1 = k then some x.2.1 else val k l
theorem fnd_val (k : K2) : ∀ l i, (fnd k l i).map (·.2) = val k l
  | [], _ => rfl
  | x :: l, i => by
    unfold fnd val
    split
    · rfl
    · exact fnd_val k l (i + 1)
def upd (k : K2) (v : Value) (cl : Nat) : List Ent → List Ent
  | [] => [(k, v, cl)]
  | x :: l => if x.1 = k then (k, v, x.2.2) :: l else x :: upd k v cl l
theorem val_upd (k : K2) (v : Value) (cl : Nat) : ∀ l, val k (upd k v cl l) = some v
  | [] => by simp [upd, val]
  | x :: l => by
    unfold upd
    split
    · simp [val]
    · rename_i h; simp only [val, h, if_false]; exact val_upd k v cl l
theorem val_other {k k' : K2} (h : k' ≠ k) (v : Value) (cl : Nat) : ∀ l, val k' (upd k v cl l) = val k' l
  | [] => by simp [upd, val, Ne.symm h]
  | x :: l => by
    unfold upd
    split
    · rename_i e; simp only [val, e, Ne.symm h, if_false]
    · simp only [val]; rw [val_other h v cl l]
theorem fnd_none {k : K2} {v : Value} {cl : Nat} : ∀ {l i}, fnd k l i = none → upd k v cl l = l ++ [(k, v, cl)]
  | [], _, _ => rfl
  | x :: l, i, h => by
    unfold fnd at h
    split at h
    · cases h
    · rename_i hx
      simp only [upd, hx, if_false, List.cons_append]
      rw [fnd_none h]
theorem fnd_some {k : K2} {v u : Value} {cl : Nat} : ∀ {l : List Ent} {i j}, fnd k l i = some (j, u) → ∃ d x, j = i + d ∧ l[d]? = some x ∧ x.1 = k ∧ upd k v cl l = l.modify d (fun x => (k, v, x.2.2))
  | [], _, _, h => by cases h
  | x :: l, i, j, h => by
    unfold fnd at h
    split at h
    · rename_i hx
      cases h
      exact ⟨0, x, rfl, rfl, hx, by simp [upd, hx]⟩
    · rename_i hx
      obtain ⟨d, y, rfl, h1, h2, h3⟩ := fnd_some (v := v) (cl := cl) h
      exact ⟨d + 1, y, by omega, by simpa using h1, h2, by simp [upd, hx, h3]⟩
theorem run_eq2 (k k' : K2) (w : World) : (Op.equal 86 (kv k) (kv k')).run Try.prog w = .ok (decide (k' = k)) w := by
  obtain ⟨a, b⟩ := k
  obtain ⟨c, d⟩ := k'
  cases a <;> cases b <;> cases c <;> cases d <;> kernel_rfl
theorem run_chk2 (e : Bool) (k : K2) (w : World) : (Instr.checkKey e 10000 86 (kv k)).run Try.prog w = .ok () w := by
  obtain ⟨a, b⟩ := k
  cases e <;> cases a <;> cases b <;> kernel_rfl
theorem run_ask2 (k : K2) (w : World) : ∀ (l : List Ent) (i : Nat), (Instr.findAsking 86 (kv k) (l.map ent) i).run Try.prog w = .ok (fnd k l i) w
  | [], i => rfl
  | x :: l, i => by
    simp only [List.map_cons, Instr.findAsking, Sem.run_bind, ent, run_eq2, Result.andThen_ok, fnd]
    by_cases h : x.1 = k
    · simp [h]
    · simp only [h, decide_false, if_false]
      exact run_ask2 k w l (i + 1)
theorem run_find2 (k : K2) (w : World) (l : List Ent) : (Instr.findKey 86 (kv k) (l.map ent)).run Try.prog w = .ok (fnd k l 0) w := by
  unfold Instr.findKey
  simp only [Sem.run_bind, run_underlying Try.underlying86, Result.andThen_ok]
  cases l with
  | nil => rfl
  | cons x l =>
    have : Instr.findNow (.array 2 4) (kv k) ((x :: l).map ent) 0 = none := rfl
    rw [this]
    exact run_ask2 k w (x :: l) 0
/-- What a map holds. -/
def MapC (w : World) (B : Nat) (L : List Ent) : Prop := ∃ cl, w.heap[B]? = some (.map (L.map ent).toArray cl)
theorem MapC.below {w w' : World} {B : Nat} {L : List Ent} (h : MapC w B L) (hb : Below w.heap.size w w') : MapC w' B L := by
  obtain ⟨cl, h⟩ := h
  exact ⟨cl, (hb.block _ (Array.getElem?_eq_some_iff.1 h).1).trans h⟩
theorem MapC.drewN {w : World} {B : Nat} {L : List Ent} (h : MapC w B L) (q : Nat) : MapC (w.drewN q) B L := h
theorem MapC.num {w : World} {B : Nat} {L : List Ent} (h : MapC w B L) : NoNum w B := by
  obtain ⟨cl, h⟩ := h
  intro o v hv
  simp [World.cell?, h] at hv
theorem run_look2 {w : World} {B : Nat} {L : List Ent} (h : MapC w B L) (k : K2) (v : Value) (hv : val k L = some v) : (Instr.lookup 84 (.map (some B)) (kv k) false).run Try.prog w = .ok v w := by
  obtain ⟨cl, h⟩ := h
  have hf : ∃ i, fnd k L 0 = some (i, v) := by
    have := fnd_val k L 0
    rw [hv] at this
    cases hx : fnd k L 0 with
    | none => rw [hx] at this; cases this
    | some p => rw [hx] at this; obtain ⟨i, u⟩ := p; simp at this; subst this; exact ⟨i, rfl⟩
  obtain ⟨i, hf⟩ := hf
  simp [Instr.lookup, run_underlying Try.underlying84, MapKept.run_getObj_map h, run_chk2, run_find2, hf, Result.andThen]
theorem run_put2 {w : World} {B : Nat} {L : List Ent} (h : MapC w B L) (k : K2) (v : Value) :
    ∃ w', (Instr.mapUpdate 84 (.map (some B)) (kv k) v).run Try.prog w = .ok () w' ∧ (∃ cl, MapC w' B (upd k v cl L)) ∧ But1 B w w' ∧ ∀ C, C ≤ B → Below C w w' := by
  obtain ⟨cl, h⟩ := h
  have hlt : B < w.heap.size := (Array.getElem?_eq_some_iff.1 h).1
  have other : ∀ o : Obj, But1 B w { w with heap := w.heap.setIfInBounds B o } ∧ ∀ C, C ≤ B → Below C w { w with heap := w.heap.setIfInBounds B o } := fun o =>
    ⟨⟨rfl, rfl, rfl, by simp, fun k _ hk => by simp only; rw [Array.getElem?_setIfInBounds_ne (by omega)]⟩, fun C hC => ⟨rfl, rfl, rfl, by simp, fun i hi => by simp only; rw [Array.getElem?_setIfInBounds_ne (by omega)]⟩⟩
  cases hf : fnd k L 0 with
  | none =>
    refine ⟨{ w with heap := w.heap.setIfInBounds B (.map ((L.map ent).toArray.push ⟨kv k, v, cl⟩) (cl + 1)) }, ?_, ⟨cl, cl + 1, ?_⟩, (other _).1, (other _).2⟩
    · simp [Instr.mapUpdate, run_underlying Try.underlying84, MapKept.run_getObj_map h, run_chk2, run_find2, hf, MapKept.run_setObj_map _ h, Result.andThen]
    · rw [fnd_none hf]
      simp [hlt, ent]
  | some p =>
    obtain ⟨j, u⟩ := p
    obtain ⟨d, x, rfl, hx, hk, hu⟩ := fnd_some (v := v) (cl := cl) hf
    rw [Nat.zero_add] at hf
    have hsame : Instr.sameBits 10000 (kv k) (kv k) = true := by obtain ⟨a, b⟩ := k; cases a <;> cases b <;> kernel_rfl
    have hkeep : ∀ w : World, (Instr.keyThatStays ((((L.map ent).toArray[d]?).map (·.key)).getD (kv k)) (kv k)).run Try.prog w = .ok (kv k) w := fun w => by
      have e : (((L.map ent).toArray[d]?).map (·.key)).getD (kv k) = kv k := by simp [hx, ent, hk]
      rw [e]
      unfold Instr.keyThatStays
      rw [hsame]; rfl
    refine ⟨{ w with heap := w.heap.setIfInBounds B (.map ((L.map ent).toArray.modify d fun e => { e with key := kv k, val := v }) cl) }, ?_, ⟨cl, cl, ?_⟩, (other _).1, (other _).2⟩
    · unfold Instr.mapUpdate
      simp only [Sem.run_bind, run_underlying Try.underlying84, Result.andThen_ok, MapKept.run_getObj_map h, run_chk2, run_find2, hf, hkeep, MapKept.run_setObj_map _ h]
    · rw [hu]
      simp only [Array.getElem?_setIfInBounds_self, hlt, if_true]
      congr 2
      apply Array.ext_getElem?
      intro i
      simp only [Array.getElem?_modify, List.getElem?_toArray, List.getElem?_map, List.getElem?_modify]
      by_cases e : d = i
      · subst e; simp [hx, ent]
      · simp [e]
end Go.Proofs.Ytmcbbccbonadjaa
/- changes: what is said of a change, in a map. -/
namespace Go.Proofs.Ytmcbbccbonadjaa
set_option linter.unusedVariables false
open Go.RowKit

/-- The records of sources a that become b, group 0: by whether they are with Except, at first and then. -/
def chg : Bool → Bool → List Int → List Int → List Rc
  | false, false, a, b => [⟨5, 0, dif b a, none, 0⟩, ⟨6, 0, dif a b, none, 0⟩]
  | true, true, a, b => [⟨5, 0, dif a b, none, 0⟩, ⟨6, 0, dif b a, none, 0⟩]
  | false, true, a, b => [⟨4, 0, b, none, 0⟩]
  | true, false, a, b => [⟨3, 0, b, none, 0⟩]
theorem ent_inj {x y : Ent} (h : ent x = ent y) : x = y := by
  obtain ⟨⟨a, b⟩, v, n⟩ := x
  obtain ⟨⟨c, d⟩, u, m⟩ := y
  simp only [ent, kv, MapEntry.mk.injEq, Value.agg.injEq] at h
  obtain ⟨h1, h2, h3⟩ := h
  simp at h1
  obtain ⟨rfl, rfl⟩ := h1
  rw [h2, h3]
theorem MapC.inj {w : World} {B : Nat} {L M : List Ent} (h : MapC w B L) (k : MapC w B M) : L = M := by
  obtain ⟨c, h⟩ := h
  obtain ⟨d, k⟩ := k
  rw [h] at k
  simp at k
  exact List.map_inj_right (fun x y e => ent_inj e) |>.1 k.1
theorem recs_new1 {w : World} {r : Rc} (h : RcOk w r) : Rcs (w.alloc (.cells #[.int .u8 r.ty, .int .u32 r.g, r.sl] 68)) (some ⟨w.heap.size, 0, none⟩) [r] := by
  have hN := Go.Deep.blk_alloc_new w (.cells #[.int .u8 r.ty, .int .u32 r.g, r.sl] 68)
  refine .inr ⟨_, 0, rfl, fun k x hk => ?_⟩
  match k, hk with
  | 0, hk =>
    cases hk
    exact ⟨⟨by simp only [World.cell?, hN]; rfl, by simp only [World.cell?, hN]; rfl, by simp only [World.cell?, hN]; rfl⟩, h.1.below (bel1 _ _), h.2⟩
theorem recs_new2 {w : World} {r s : Rc} (h : RcOk w r) (k : RcOk w s) : Rcs (w.alloc (.cells #[.int .u8 r.ty, .int .u32 r.g, r.sl, .int .u8 s.ty, .int .u32 s.g, s.sl] 68)) (some ⟨w.heap.size, 0, none⟩) [r, s] := by
  have hN := Go.Deep.blk_alloc_new w (.cells #[.int .u8 r.ty, .int .u32 r.g, r.sl, .int .u8 s.ty, .int .u32 s.g, s.sl] 68)
  refine .inr ⟨_, 0, rfl, fun j x hk => ?_⟩
  match j, hk with
  | 0, hk =>
    cases hk
    exact ⟨⟨by simp only [World.cell?, hN]; rfl, by simp only [World.cell?, hN]; rfl, by simp only [World.cell?, hN]; rfl⟩, h.1.below (bel1 _ _), h.2⟩
  | 1, hk =>
    cases hk
    exact ⟨⟨by simp only [World.cell?, hN]; rfl, by simp only [World.cell?, hN]; rfl, by simp only [World.cell?, hN]; rfl⟩, k.1.below (bel1 _ _), k.2⟩
/-- The key that an operation puts in. -/
def cKey : Nat → Option K2
  | 11 => some (false, false) | 22 => some (true, true) | 28 => some (false, true) | 34 => some (true, false) | _ => none
theorem cKey_inj {i j : Nat} {k : K2} (h : cKey i = some k) (h' : cKey j = some k) : i = j := by
  unfold cKey at h h'
  split at h <;> split at h' <;> simp_all
  all_goals (subst h; simp at h')
/-- How an operation may turn the world. -/
def cR (j : Nat) (w w' : World) : Prop := Tm w w' ∧ ∀ B L, MapC w B L → ∃ L', MapC w' B L' ∧ ∀ k, cKey j ≠ some k → val k L' = val k L
theorem cR_below {j : Nat} {w w' : World} (h : Below w.heap.size w w') : cR j w w' := ⟨.inl h, fun B L hM => ⟨L, hM.below h, fun _ _ => rfl⟩⟩
theorem cR_refl (j : Nat) (w : World) : cR j w w := cR_below (Below.refl _ _)
theorem cR_put {j B : Nat} {w w' : World} {k : K2} {v : Value} {cl : Nat} {L : List Ent} (hj : cKey j = some k) (hM : MapC w B L) (hM' : MapC w' B (upd k v cl L)) (hb : But1 B w w') : cR j w w' := by
  refine ⟨.inr ⟨B, hM.num, hb⟩, fun B' L' h' => ?_⟩
  by_cases e : B' = B
  · subst e
    have := h'.inj hM
    subst this
    refine ⟨_, hM', fun k' hk' => val_other (fun e => hk' (by rw [hj, e])) v cl _⟩
  · obtain ⟨c, h'⟩ := h'
    exact ⟨L', ⟨c, (hb.block _ (Array.getElem?_eq_some_iff.1 h').1 e).trans h'⟩, fun _ _ => rfl⟩
theorem mapKeep {j B : Nat} {w w' : World} (hr : cR j w w') (h : ∃ L, MapC w B L) : ∃ L, MapC w' B L := by
  obtain ⟨L, h⟩ := h
  obtain ⟨L', h', _⟩ := hr.2 B L h
  exact ⟨L', h'⟩
def cgV (N : Nat) (a : Option Addr) (la ca : Nat) (b : Option Addr) (lb cb : Nat) (xs ys : List Int) : Nat → Value → List Value → World → Prop
  | 0, v, _, w => ∃ B5, v = .map (some B5) ∧ N ≤ B5 ∧ (∃ L, MapC w B5 L)
  | 1, v, _, _ => v = .agg #[.bool false, .bool false]
  | 2, v, _, _ => v = .slice b lb cb
  | 3, v, _, _ => v = .slice a la ca
  | 4, v, _, w => ∃ a9 c9, v = .slice a9 (dif ys xs).length c9 ∧ As w a9 (dif ys xs) ∧ (a9 = none → c9 = 0)
  | 5, v, _, w => ∃ a9 c9, v = .agg #[.int .u8 5, .int .u32 0, .slice a9 (dif ys xs).length c9] ∧ As w a9 (dif ys xs) ∧ (a9 = none → c9 = 0)
  | 6, v, _, _ => v = .slice a la ca
  | 7, v, _, _ => v = .slice b lb cb
  | 8, v, _, w => ∃ a13 c13, v = .slice a13 (dif xs ys).length c13 ∧ As w a13 (dif xs ys) ∧ (a13 = none → c13 = 0)
  | 9, v, _, w => ∃ a13 c13, v = .agg #[.int .u8 6, .int .u32 0, .slice a13 (dif xs ys).length c13] ∧ As w a13 (dif xs ys) ∧ (a13 = none → c13 = 0)
  | 10, v, _, w => ∃ (p15 : Nat) (rs15 : List Rc), v = .slice (some ⟨p15, 0, none⟩) 2 2 ∧ Rcs w (some ⟨p15, 0, none⟩) rs15 ∧ rs15.map Rc.nm = chg false false xs ys
  | 11, v, us, w => ∃ B x sl, us = [.map (some B), x, sl] ∧ ∃ L, MapC w B L ∧ val (false, false) L = some sl
  | 12, v, _, _ => v = .agg #[.bool true, .bool true]
  | 13, v, _, _ => v = .slice a la ca
  | 14, v, _, _ => v = .slice b lb cb
  | 15, v, _, w => ∃ a19 c19, v = .slice a19 (dif xs ys).length c19 ∧ As w a19 (dif xs ys) ∧ (a19 = none → c19 = 0)
  | 16, v, _, w => ∃ a19 c19, v = .agg #[.int .u8 5, .int .u32 0, .slice a19 (dif xs ys).length c19] ∧ As w a19 (dif xs ys) ∧ (a19 = none → c19 = 0)
  | 17, v, _, _ => v = .slice b lb cb
  | 18, v, _, _ => v = .slice a la ca
  | 19, v, _, w => ∃ a23 c23, v = .slice a23 (dif ys xs).length c23 ∧ As w a23 (dif ys xs) ∧ (a23 = none → c23 = 0)
  | 20, v, _, w => ∃ a23 c23, v = .agg #[.int .u8 6, .int .u32 0, .slice a23 (dif ys xs).length c23] ∧ As w a23 (dif ys xs) ∧ (a23 = none → c23 = 0)
  | 21, v, _, w => ∃ (p25 : Nat) (rs25 : List Rc), v = .slice (some ⟨p25, 0, none⟩) 2 2 ∧ Rcs w (some ⟨p25, 0, none⟩) rs25 ∧ rs25.map Rc.nm = chg true true xs ys
  | 22, v, us, w => ∃ B x sl, us = [.map (some B), x, sl] ∧ ∃ L, MapC w B L ∧ val (true, true) L = some sl
  | 23, v, _, _ => v = .agg #[.bool false, .bool true]
  | 24, v, _, _ => v = .slice b lb cb
  | 25, v, _, w => ∃ a28 c28, v = .slice a28 (ys).length c28 ∧ As w a28 (ys) ∧ (a28 = none → c28 = 0)
  | 26, v, _, w => ∃ a28 c28, v = .agg #[.int .u8 4, .int .u32 0, .slice a28 (ys).length c28] ∧ As w a28 (ys) ∧ (a28 = none → c28 = 0)
  | 27, v, _, w => ∃ (p30 : Nat) (rs30 : List Rc), v = .slice (some ⟨p30, 0, none⟩) 1 1 ∧ Rcs w (some ⟨p30, 0, none⟩) rs30 ∧ rs30.map Rc.nm = chg false true xs ys
  | 28, v, us, w => ∃ B x sl, us = [.map (some B), x, sl] ∧ ∃ L, MapC w B L ∧ val (false, true) L = some sl
  | 29, v, _, _ => v = .agg #[.bool true, .bool false]
  | 30, v, _, _ => v = .slice b lb cb
  | 31, v, _, w => ∃ a33 c33, v = .slice a33 (ys).length c33 ∧ As w a33 (ys) ∧ (a33 = none → c33 = 0)
  | 32, v, _, w => ∃ a33 c33, v = .agg #[.int .u8 3, .int .u32 0, .slice a33 (ys).length c33] ∧ As w a33 (ys) ∧ (a33 = none → c33 = 0)
  | 33, v, _, w => ∃ (p35 : Nat) (rs35 : List Rc), v = .slice (some ⟨p35, 0, none⟩) 1 1 ∧ Rcs w (some ⟨p35, 0, none⟩) rs35 ∧ rs35.map Rc.nm = chg true false xs ys
  | 34, v, us, w => ∃ B x sl, us = [.map (some B), x, sl] ∧ ∃ L, MapC w B L ∧ val (true, false) L = some sl
  | 35, v, us, w => us = [v]
  | 36, v, us, w => us = [v]
  | _, _, _, _ => True
def cgD : Nat → List Nat
  | 4 => [2, 3]
  | 5 => [4]
  | 8 => [6, 7]
  | 9 => [8]
  | 10 => [5, 9]
  | 11 => [0, 1, 10]
  | 15 => [13, 14]
  | 16 => [15]
  | 19 => [17, 18]
  | 20 => [19]
  | 21 => [16, 20]
  | 22 => [0, 12, 21]
  | 25 => [24]
  | 26 => [25]
  | 27 => [26]
  | 28 => [0, 23, 27]
  | 31 => [30]
  | 32 => [31]
  | 33 => [32]
  | 34 => [0, 29, 33]
  | 35 => [0]
  | 36 => [35]
  | _ => []
theorem cg_st (N : Nat) (a : Option Addr) (la ca : Nat) (b : Option Addr) (lb cb : Nat) (xs ys : List Int) {i : Nat} {v : Value} {us : List Value} {w w' : World} {j : Nat} (hij : i ≠ j) (hr : cR j w w') (hv : cgV N a la ca b lb cb xs ys i v us w) : cgV N a la ca b lb cb xs ys i v us w' := by
  unfold cgV at hv ⊢
  split at hv
  all_goals first
    | exact hv
    | (obtain ⟨B5, e, hB5, hM5⟩ := hv; exact ⟨B5, e, hB5, (mapKeep hr hM5)⟩)
    | (obtain ⟨a9, c9, e, h9, n9⟩ := hv; exact ⟨a9, c9, e, h9.tm hr.1, n9⟩)
    | (obtain ⟨a13, c13, e, h13, n13⟩ := hv; exact ⟨a13, c13, e, h13.tm hr.1, n13⟩)
    | (obtain ⟨p15, rs15, e, k15, m15⟩ := hv; exact ⟨p15, rs15, e, k15.tm hr.1, m15⟩)
    | (obtain ⟨a19, c19, e, h19, n19⟩ := hv; exact ⟨a19, c19, e, h19.tm hr.1, n19⟩)
    | (obtain ⟨a23, c23, e, h23, n23⟩ := hv; exact ⟨a23, c23, e, h23.tm hr.1, n23⟩)
    | (obtain ⟨p25, rs25, e, k25, m25⟩ := hv; exact ⟨p25, rs25, e, k25.tm hr.1, m25⟩)
    | (obtain ⟨a28, c28, e, h28, n28⟩ := hv; exact ⟨a28, c28, e, h28.tm hr.1, n28⟩)
    | (obtain ⟨p30, rs30, e, k30, m30⟩ := hv; exact ⟨p30, rs30, e, k30.tm hr.1, m30⟩)
    | (obtain ⟨a33, c33, e, h33, n33⟩ := hv; exact ⟨a33, c33, e, h33.tm hr.1, n33⟩)
    | (obtain ⟨p35, rs35, e, k35, m35⟩ := hv; exact ⟨p35, rs35, e, k35.tm hr.1, m35⟩)
    | (obtain ⟨B, x, sl, hu, L, hm, hv⟩ := hv; obtain ⟨L', hm', hk⟩ := hr.2 B L hm; exact ⟨B, x, sl, hu, L', hm', (hk _ (fun e => hij (cKey_inj (i := _) rfl e))).trans hv⟩)
set_option maxRecDepth 100000 in
set_option maxHeartbeats 8000000 in
theorem hChanges (a b : Option Addr) (la lb ca cb : Nat) (xs ys : List Int) (w : World) (hx : xs.length = la) (hy : ys.length = lb) (hla : la ≤ 200000) (hlb : lb ≤ 200000) (h1 : As w a xs) (h2 : As w b ys) (hnb : b = none → cb = 0) :
    Calls Try.prog 51 #[.slice a la ca, .slice b lb cb] w fun e w' => ∃ B, e = .returned (.map (some B)) ∧ (∀ p q, ∃ a' c' rs L, MapC w' B L ∧ val (p, q) L = some (.slice a' (List.length rs) c') ∧ Rcs w' a' rs ∧ rs.map Rc.nm = chg p q xs ys) ∧ Below w.heap.size w w' := by
  have HXa := Lib.hid hx
  have HXb := Lib.hid hy
  have HA := Lib.hid h1
  have HB := Lib.hid h2
  have HNb := Lib.hid hnb
  have hNs : Hid (w.heap.size ≤ w.heap.size) := Lib.hid (Nat.le_refl _)
  clear hx hy h1 h2 hnb
  go_enter Try.func51, Try.ntmps51
  go_wp2_with fail
  refine wp_region_each3 (cgV w.heap.size a la ca b lb cb xs ys) (fun W => Below w.heap.size w W) (cR) cgD [5, 6, 7, 8, 9, 10, 11, 12, 13, 14, 15, 16, 17, 18, 19, 20, 21, 22, 23, 24, 25, 26, 27, 28, 29, 30, 31, 32, 33, 34, 35, 36, 4] (by kernel_rfl) (by kernel_rfl) (by kernel_rfl) (Below.refl _ w).drew
    (fun i j oi oj v us A B hoi hoj hij hw hSA hr hv => cg_st _ _ _ _ _ _ _ _ _ hij hr hv) ?hgd
    ⟨?_, ?_, ?_, ?_, ?_, ?_, ?_, ?_, ?_, ?_, ?_, ?_, ?_, ?_, ?_, ?_, ?_, ?_, ?_, ?_, ?_, ?_, ?_, ?_, ?_, ?_, ?_, ?_, ?_, ?_, ?_, ?_, ?_, ?_, ?_, ?_, ?_, trivial⟩ ?hend
  case hgd =>
    intro i o g b hoi hog v us w hv
    have hi : i < 37 := (Array.getElem?_eq_some_iff.1 hoi).1
    have hc : i = 0 ∨ i = 1 ∨ i = 2 ∨ i = 3 ∨ i = 4 ∨ i = 5 ∨ i = 6 ∨ i = 7 ∨ i = 8 ∨ i = 9 ∨ i = 10 ∨ i = 11 ∨ i = 12 ∨ i = 13 ∨ i = 14 ∨ i = 15 ∨ i = 16 ∨ i = 17 ∨ i = 18 ∨ i = 19 ∨ i = 20 ∨ i = 21 ∨ i = 22 ∨ i = 23 ∨ i = 24 ∨ i = 25 ∨ i = 26 ∨ i = 27 ∨ i = 28 ∨ i = 29 ∨ i = 30 ∨ i = 31 ∨ i = 32 ∨ i = 33 ∨ i = 34 ∨ i = 35 ∨ i = 36 := by omega
    rcases hc with rfl | rfl | rfl | rfl | rfl | rfl | rfl | rfl | rfl | rfl | rfl | rfl | rfl | rfl | rfl | rfl | rfl | rfl | rfl | rfl | rfl | rfl | rfl | rfl | rfl | rfl | rfl | rfl | rfl | rfl | rfl | rfl | rfl | rfl | rfl | rfl | rfl
    · cases hoi; cases hog
    · cases hoi; cases hog
    · cases hoi; cases hog
    · cases hoi; cases hog
    · cases hoi; cases hog
    · cases hoi; cases hog
    · cases hoi; cases hog
    · cases hoi; cases hog
    · cases hoi; cases hog
    · cases hoi; cases hog
    · cases hoi; cases hog
    · cases hoi; cases hog
    · cases hoi; cases hog
    · cases hoi; cases hog
    · cases hoi; cases hog
    · cases hoi; cases hog
    · cases hoi; cases hog
    · cases hoi; cases hog
    · cases hoi; cases hog
    · cases hoi; cases hog
    · cases hoi; cases hog
    · cases hoi; cases hog
    · cases hoi; cases hog
    · cases hoi; cases hog
    · cases hoi; cases hog
    · cases hoi; cases hog
    · cases hoi; cases hog
    · cases hoi; cases hog
    · cases hoi; cases hog
    · cases hoi; cases hog
    · cases hoi; cases hog
    · cases hoi; cases hog
    · cases hoi; cases hog
    · cases hoi; cases hog
    · cases hoi; cases hog
    · cases hoi; cases hog
    · cases hoi; cases hog
  case refine_1 =>
    intro a' w9 hS h0 hd
    have hmm := @run_makeMap Try.prog 84 w9
    refine Does2.value (.map (some w9.heap.size)) (w' := w9.alloc (.map #[] 0)) ?_ ⟨⟨w9.heap.size, rfl, hS.size, [], 0, Go.Deep.blk_alloc_new _ _⟩, hS.alloc hS.size _, cR_below (bel1 w9 _)⟩
    clear hS h0 hd
    go_simp
  case refine_2 =>
    intro a' w9 hS h0 hd
    refine Does2.value (.agg #[.bool false, .bool false]) (w' := w9) ?_ ⟨rfl, hS, cR_refl _ _⟩
    clear hS h0 hd
    go_simp
  case refine_3 =>
    intro a' w9 hS h0 hd
    have e1 : a'.tmps[1]?.getD undef = .slice b lb cb := evG (h0 1 (by kernel_rfl))
    refine Does2.value (.slice b lb cb) (w' := w9) ?_ ⟨rfl, hS, cR_refl _ _⟩
    clear hS h0 hd
    go_simp
  case refine_4 =>
    intro a' w9 hS h0 hd
    have e0 : a'.tmps[0]?.getD undef = .slice a la ca := evG (h0 0 (by kernel_rfl))
    refine Does2.value (.slice a la ca) (w' := w9) ?_ ⟨rfl, hS, cR_refl _ _⟩
    clear hS h0 hd
    go_simp
  case refine_5 =>
    intro a' w9 hS h0 hd
    have e7 : a'.tmps[7]?.getD undef = .slice b lb cb := evG (hd 2 List.mem_cons_self)
    have e8 : a'.tmps[8]?.getD undef = .slice a la ca := evG (hd 3 (List.mem_cons_of_mem _ List.mem_cons_self))
    refine Does2.call 41 #[.slice b lb cb, .slice a la ca] (w' := w9) ?_ ((sMinus b a lb la cb ca ys xs w9 HXb.out HXa.out (by omega) (by omega) (HB.out.below (hS.mono hNs.out)) (HA.out.below (hS.mono hNs.out))).mono ?_)
    · clear hS h0 hd
      go_simp
    · rintro e w8 ⟨⟨a8, c8, rfl, hA8, hf8⟩, hb8⟩
      exact ⟨_, rfl, ⟨a8, c8, rfl, hA8, flat_nil' hf8⟩, hS.trans (hb8.mono hS.size), cR_below hb8⟩
  case refine_6 =>
    intro a' w9 hS h0 hd
    obtain ⟨a9, c9, e9, h9, n9⟩ := hd 4 List.mem_cons_self
    replace e9 := evG e9
    refine Does2.value (.agg #[.int .u8 5, .int .u32 0, .slice a9 (dif ys xs).length c9]) (w' := w9) ?_ ⟨⟨a9, c9, rfl, h9, n9⟩, hS, cR_refl _ _⟩
    clear hS h0 hd h9
    go_simp
  case refine_7 =>
    intro a' w9 hS h0 hd
    have e0 : a'.tmps[0]?.getD undef = .slice a la ca := evG (h0 0 (by kernel_rfl))
    refine Does2.value (.slice a la ca) (w' := w9) ?_ ⟨rfl, hS, cR_refl _ _⟩
    clear hS h0 hd
    go_simp
  case refine_8 =>
    intro a' w9 hS h0 hd
    have e1 : a'.tmps[1]?.getD undef = .slice b lb cb := evG (h0 1 (by kernel_rfl))
    refine Does2.value (.slice b lb cb) (w' := w9) ?_ ⟨rfl, hS, cR_refl _ _⟩
    clear hS h0 hd
    go_simp
  case refine_9 =>
    intro a' w9 hS h0 hd
    have e11 : a'.tmps[11]?.getD undef = .slice a la ca := evG (hd 6 List.mem_cons_self)
    have e12 : a'.tmps[12]?.getD undef = .slice b lb cb := evG (hd 7 (List.mem_cons_of_mem _ List.mem_cons_self))
    refine Does2.call 41 #[.slice a la ca, .slice b lb cb] (w' := w9) ?_ ((sMinus a b la lb ca cb xs ys w9 HXa.out HXb.out (by omega) (by omega) (HA.out.below (hS.mono hNs.out)) (HB.out.below (hS.mono hNs.out))).mono ?_)
    · clear hS h0 hd
      go_simp
    · rintro e w8 ⟨⟨a8, c8, rfl, hA8, hf8⟩, hb8⟩
      exact ⟨_, rfl, ⟨a8, c8, rfl, hA8, flat_nil' hf8⟩, hS.trans (hb8.mono hS.size), cR_below hb8⟩
  case refine_10 =>
    intro a' w9 hS h0 hd
    obtain ⟨a13, c13, e13, h13, n13⟩ := hd 8 List.mem_cons_self
    replace e13 := evG e13
    refine Does2.value (.agg #[.int .u8 6, .int .u32 0, .slice a13 (dif xs ys).length c13]) (w' := w9) ?_ ⟨⟨a13, c13, rfl, h13, n13⟩, hS, cR_refl _ _⟩
    clear hS h0 hd h13
    go_simp
  case refine_11 =>
    intro a' w9 hS h0 hd
    obtain ⟨a9, c9, e10, h9, n9⟩ := hd 5 List.mem_cons_self
    replace e10 := evG e10
    obtain ⟨a13, c13, e14, h13, n13⟩ := hd 9 (List.mem_cons_of_mem _ List.mem_cons_self)
    replace e14 := evG e14
    refine Does2.value (.slice (some ⟨w9.heap.size, 0, none⟩) 2 2) (w' := w9.alloc (.cells #[.int .u8 5, .int .u32 0, .slice a9 (dif ys xs).length c9, .int .u8 6, .int .u32 0, .slice a13 (dif xs ys).length c13] 68)) ?_ ⟨⟨w9.heap.size, [⟨5, 0, dif ys xs, a9, c9⟩, ⟨6, 0, dif xs ys, a13, c13⟩], rfl, recs_new2 (show RcOk w9 ⟨5, 0, dif ys xs, a9, c9⟩ from ⟨h9, n9⟩) (show RcOk w9 ⟨6, 0, dif xs ys, a13, c13⟩ from ⟨h13, n13⟩), rfl⟩, hS.alloc hS.size _, cR_below (bel1 w9 _)⟩
    clear hS h0 hd h9 h13
    go_simp
  case refine_12 =>
    intro a' w9 hS h0 hd
    obtain ⟨B5, e5, hB5, hM5⟩ := hd 0 List.mem_cons_self
    replace e5 := evG e5
    have e6 : a'.tmps[6]?.getD undef = .agg #[.bool false, .bool false] := evG (hd 1 (List.mem_cons_of_mem _ List.mem_cons_self))
    obtain ⟨p15, rs15, e15, k15, m15⟩ := hd 10 (List.mem_cons_of_mem _ (List.mem_cons_of_mem _ List.mem_cons_self))
    replace e15 := evG e15
    obtain ⟨L5, hM5⟩ := hM5
    obtain ⟨w8, hrun, ⟨cl, hM8⟩, hb1, hbC⟩ := run_put2 hM5 (false, false) (.slice (some ⟨p15, 0, none⟩) 2 2)
    simp only [kv] at hrun
    refine Does2.skip (w' := w8) ?_ ⟨⟨B5, .agg #[.bool false, .bool false], .slice (some ⟨p15, 0, none⟩) 2 2, ?_, _, hM8, val_upd _ _ _ _⟩, hS.trans (hbC _ hB5), cR_put rfl hM5 hM8 hb1⟩
    · clear hS h0 hd k15 hM5 hM8 hb1 hbC
      go_simp
    · have q1 := hd 0 List.mem_cons_self
      have q2 := hd 1 (List.mem_cons_of_mem _ List.mem_cons_self)
      have q3 := hd 10 (List.mem_cons_of_mem _ (List.mem_cons_of_mem _ List.mem_cons_self))
      obtain ⟨B7, q1, hB7, hM7⟩ := q1
      have q5 : a'.eval (.tmp 5) = .map (some B5) := by simp [Act.eval, e5]
      have q6 : a'.eval (.tmp 6) = .agg #[.bool false, .bool false] := q2
      have q7 : a'.eval (.tmp 15) = .slice (some ⟨p15, 0, none⟩) 2 2 := by simp [Act.eval, e15]
      show [a'.eval (.tmp 5), a'.eval (.tmp 6), a'.eval (.tmp 15)] = _
      rw [q5, q6, q7]
  case refine_13 =>
    intro a' w9 hS h0 hd
    refine Does2.value (.agg #[.bool true, .bool true]) (w' := w9) ?_ ⟨rfl, hS, cR_refl _ _⟩
    clear hS h0 hd
    go_simp
  case refine_14 =>
    intro a' w9 hS h0 hd
    have e0 : a'.tmps[0]?.getD undef = .slice a la ca := evG (h0 0 (by kernel_rfl))
    refine Does2.value (.slice a la ca) (w' := w9) ?_ ⟨rfl, hS, cR_refl _ _⟩
    clear hS h0 hd
    go_simp
  case refine_15 =>
    intro a' w9 hS h0 hd
    have e1 : a'.tmps[1]?.getD undef = .slice b lb cb := evG (h0 1 (by kernel_rfl))
    refine Does2.value (.slice b lb cb) (w' := w9) ?_ ⟨rfl, hS, cR_refl _ _⟩
    clear hS h0 hd
    go_simp
  case refine_16 =>
    intro a' w9 hS h0 hd
    have e17 : a'.tmps[17]?.getD undef = .slice a la ca := evG (hd 13 List.mem_cons_self)
    have e18 : a'.tmps[18]?.getD undef = .slice b lb cb := evG (hd 14 (List.mem_cons_of_mem _ List.mem_cons_self))
    refine Does2.call 41 #[.slice a la ca, .slice b lb cb] (w' := w9) ?_ ((sMinus a b la lb ca cb xs ys w9 HXa.out HXb.out (by omega) (by omega) (HA.out.below (hS.mono hNs.out)) (HB.out.below (hS.mono hNs.out))).mono ?_)
    · clear hS h0 hd
      go_simp
    · rintro e w8 ⟨⟨a8, c8, rfl, hA8, hf8⟩, hb8⟩
      exact ⟨_, rfl, ⟨a8, c8, rfl, hA8, flat_nil' hf8⟩, hS.trans (hb8.mono hS.size), cR_below hb8⟩
  case refine_17 =>
    intro a' w9 hS h0 hd
    obtain ⟨a19, c19, e19, h19, n19⟩ := hd 15 List.mem_cons_self
    replace e19 := evG e19
    refine Does2.value (.agg #[.int .u8 5, .int .u32 0, .slice a19 (dif xs ys).length c19]) (w' := w9) ?_ ⟨⟨a19, c19, rfl, h19, n19⟩, hS, cR_refl _ _⟩
    clear hS h0 hd h19
    go_simp
  case refine_18 =>
    intro a' w9 hS h0 hd
    have e1 : a'.tmps[1]?.getD undef = .slice b lb cb := evG (h0 1 (by kernel_rfl))
    refine Does2.value (.slice b lb cb) (w' := w9) ?_ ⟨rfl, hS, cR_refl _ _⟩
    clear hS h0 hd
    go_simp
  case refine_19 =>
    intro a' w9 hS h0 hd
    have e0 : a'.tmps[0]?.getD undef = .slice a la ca := evG (h0 0 (by kernel_rfl))
    refine Does2.value (.slice a la ca) (w' := w9) ?_ ⟨rfl, hS, cR_refl _ _⟩
    clear hS h0 hd
    go_simp
  case refine_20 =>
    intro a' w9 hS h0 hd
    have e21 : a'.tmps[21]?.getD undef = .slice b lb cb := evG (hd 17 List.mem_cons_self)
    have e22 : a'.tmps[22]?.getD undef = .slice a la ca := evG (hd 18 (List.mem_cons_of_mem _ List.mem_cons_self))
    refine Does2.call 41 #[.slice b lb cb, .slice a la ca] (w' := w9) ?_ ((sMinus b a lb la cb ca ys xs w9 HXb.out HXa.out (by omega) (by omega) (HB.out.below (hS.mono hNs.out)) (HA.out.below (hS.mono hNs.out))).mono ?_)
    · clear hS h0 hd
      go_simp
    · rintro e w8 ⟨⟨a8, c8, rfl, hA8, hf8⟩, hb8⟩
      exact ⟨_, rfl, ⟨a8, c8, rfl, hA8, flat_nil' hf8⟩, hS.trans (hb8.mono hS.size), cR_below hb8⟩
  case refine_21 =>
    intro a' w9 hS h0 hd
    obtain ⟨a23, c23, e23, h23, n23⟩ := hd 19 List.mem_cons_self
    replace e23 := evG e23
    refine Does2.value (.agg #[.int .u8 6, .int .u32 0, .slice a23 (dif ys xs).length c23]) (w' := w9) ?_ ⟨⟨a23, c23, rfl, h23, n23⟩, hS, cR_refl _ _⟩
    clear hS h0 hd h23
    go_simp
  case refine_22 =>
    intro a' w9 hS h0 hd
    obtain ⟨a19, c19, e20, h19, n19⟩ := hd 16 List.mem_cons_self
    replace e20 := evG e20
    obtain ⟨a23, c23, e24, h23, n23⟩ := hd 20 (List.mem_cons_of_mem _ List.mem_cons_self)
    replace e24 := evG e24
    refine Does2.value (.slice (some ⟨w9.heap.size, 0, none⟩) 2 2) (w' := w9.alloc (.cells #[.int .u8 5, .int .u32 0, .slice a19 (dif xs ys).length c19, .int .u8 6, .int .u32 0, .slice a23 (dif ys xs).length c23] 68)) ?_ ⟨⟨w9.heap.size, [⟨5, 0, dif xs ys, a19, c19⟩, ⟨6, 0, dif ys xs, a23, c23⟩], rfl, recs_new2 (show RcOk w9 ⟨5, 0, dif xs ys, a19, c19⟩ from ⟨h19, n19⟩) (show RcOk w9 ⟨6, 0, dif ys xs, a23, c23⟩ from ⟨h23, n23⟩), rfl⟩, hS.alloc hS.size _, cR_below (bel1 w9 _)⟩
    clear hS h0 hd h19 h23
    go_simp
  case refine_23 =>
    intro a' w9 hS h0 hd
    obtain ⟨B5, e5, hB5, hM5⟩ := hd 0 List.mem_cons_self
    replace e5 := evG e5
    have e16 : a'.tmps[16]?.getD undef = .agg #[.bool true, .bool true] := evG (hd 12 (List.mem_cons_of_mem _ List.mem_cons_self))
    obtain ⟨p25, rs25, e25, k25, m25⟩ := hd 21 (List.mem_cons_of_mem _ (List.mem_cons_of_mem _ List.mem_cons_self))
    replace e25 := evG e25
    obtain ⟨L5, hM5⟩ := hM5
    obtain ⟨w8, hrun, ⟨cl, hM8⟩, hb1, hbC⟩ := run_put2 hM5 (true, true) (.slice (some ⟨p25, 0, none⟩) 2 2)
    simp only [kv] at hrun
    refine Does2.skip (w' := w8) ?_ ⟨⟨B5, .agg #[.bool true, .bool true], .slice (some ⟨p25, 0, none⟩) 2 2, ?_, _, hM8, val_upd _ _ _ _⟩, hS.trans (hbC _ hB5), cR_put rfl hM5 hM8 hb1⟩
    · clear hS h0 hd k25 hM5 hM8 hb1 hbC
      go_simp
    · have q1 := hd 0 List.mem_cons_self
      have q2 := hd 12 (List.mem_cons_of_mem _ List.mem_cons_self)
      have q3 := hd 21 (List.mem_cons_of_mem _ (List.mem_cons_of_mem _ List.mem_cons_self))
      obtain ⟨B7, q1, hB7, hM7⟩ := q1
      have q5 : a'.eval (.tmp 5) = .map (some B5) := by simp [Act.eval, e5]
      have q6 : a'.eval (.tmp 16) = .agg #[.bool true, .bool true] := q2
      have q7 : a'.eval (.tmp 25) = .slice (some ⟨p25, 0, none⟩) 2 2 := by simp [Act.eval, e25]
      show [a'.eval (.tmp 5), a'.eval (.tmp 16), a'.eval (.tmp 25)] = _
      rw [q5, q6, q7]
  case refine_24 =>
    intro a' w9 hS h0 hd
    refine Does2.value (.agg #[.bool false, .bool true]) (w' := w9) ?_ ⟨rfl, hS, cR_refl _ _⟩
    clear hS h0 hd
    go_simp
  case refine_25 =>
    intro a' w9 hS h0 hd
    have e1 : a'.tmps[1]?.getD undef = .slice b lb cb := evG (h0 1 (by kernel_rfl))
    refine Does2.value (.slice b lb cb) (w' := w9) ?_ ⟨rfl, hS, cR_refl _ _⟩
    clear hS h0 hd
    go_simp
  case refine_26 =>
    intro a' w9 hS h0 hd
    have e27 : a'.tmps[27]?.getD undef = .slice b lb cb := evG (hd 24 List.mem_cons_self)
    refine Does2.call 66 #[.slice b lb cb] (w' := w9) ?_ ((lCloneA b lb cb ys w9 HXb.out (by omega) (HB.out.below (hS.mono hNs.out)) HNb.out).mono ?_)
    · clear hS h0 hd
      go_simp
    · rintro e w8 ⟨⟨a8, c8, rfl, hA8, hf8⟩, hb8⟩
      exact ⟨_, rfl, ⟨a8, c8, rfl, hA8, flat_nil' hf8⟩, hS.trans (hb8.mono hS.size), cR_below hb8⟩
  case refine_27 =>
    intro a' w9 hS h0 hd
    obtain ⟨a28, c28, e28, h28, n28⟩ := hd 25 List.mem_cons_self
    replace e28 := evG e28
    refine Does2.value (.agg #[.int .u8 4, .int .u32 0, .slice a28 (ys).length c28]) (w' := w9) ?_ ⟨⟨a28, c28, rfl, h28, n28⟩, hS, cR_refl _ _⟩
    clear hS h0 hd h28
    go_simp
  case refine_28 =>
    intro a' w9 hS h0 hd
    obtain ⟨a28, c28, e29, h28, n28⟩ := hd 26 List.mem_cons_self
    replace e29 := evG e29
    refine Does2.value (.slice (some ⟨w9.heap.size, 0, none⟩) 1 1) (w' := w9.alloc (.cells #[.int .u8 4, .int .u32 0, .slice a28 (ys).length c28] 68)) ?_ ⟨⟨w9.heap.size, [⟨4, 0, ys, a28, c28⟩], rfl, recs_new1 (show RcOk w9 ⟨4, 0, ys, a28, c28⟩ from ⟨h28, n28⟩), rfl⟩, hS.alloc hS.size _, cR_below (bel1 w9 _)⟩
    clear hS h0 hd h28
    go_simp
  case refine_29 =>
    intro a' w9 hS h0 hd
    obtain ⟨B5, e5, hB5, hM5⟩ := hd 0 List.mem_cons_self
    replace e5 := evG e5
    have e26 : a'.tmps[26]?.getD undef = .agg #[.bool false, .bool true] := evG (hd 23 (List.mem_cons_of_mem _ List.mem_cons_self))
    obtain ⟨p30, rs30, e30, k30, m30⟩ := hd 27 (List.mem_cons_of_mem _ (List.mem_cons_of_mem _ List.mem_cons_self))
    replace e30 := evG e30
    obtain ⟨L5, hM5⟩ := hM5
    obtain ⟨w8, hrun, ⟨cl, hM8⟩, hb1, hbC⟩ := run_put2 hM5 (false, true) (.slice (some ⟨p30, 0, none⟩) 1 1)
    simp only [kv] at hrun
    refine Does2.skip (w' := w8) ?_ ⟨⟨B5, .agg #[.bool false, .bool true], .slice (some ⟨p30, 0, none⟩) 1 1, ?_, _, hM8, val_upd _ _ _ _⟩, hS.trans (hbC _ hB5), cR_put rfl hM5 hM8 hb1⟩
    · clear hS h0 hd k30 hM5 hM8 hb1 hbC
      go_simp
    · have q1 := hd 0 List.mem_cons_self
      have q2 := hd 23 (List.mem_cons_of_mem _ List.mem_cons_self)
      have q3 := hd 27 (List.mem_cons_of_mem _ (List.mem_cons_of_mem _ List.mem_cons_self))
      obtain ⟨B7, q1, hB7, hM7⟩ := q1
      have q5 : a'.eval (.tmp 5) = .map (some B5) := by simp [Act.eval, e5]
      have q6 : a'.eval (.tmp 26) = .agg #[.bool false, .bool true] := q2
      have q7 : a'.eval (.tmp 30) = .slice (some ⟨p30, 0, none⟩) 1 1 := by simp [Act.eval, e30]
      show [a'.eval (.tmp 5), a'.eval (.tmp 26), a'.eval (.tmp 30)] = _
      rw [q5, q6, q7]
  case refine_30 =>
    intro a' w9 hS h0 hd
    refine Does2.value (.agg #[.bool true, .bool false]) (w' := w9) ?_ ⟨rfl, hS, cR_refl _ _⟩
    clear hS h0 hd
    go_simp
  case refine_31 =>
    intro a' w9 hS h0 hd
    have e1 : a'.tmps[1]?.getD undef = .slice b lb cb := evG (h0 1 (by kernel_rfl))
    refine Does2.value (.slice b lb cb) (w' := w9) ?_ ⟨rfl, hS, cR_refl _ _⟩
    clear hS h0 hd
    go_simp
  case refine_32 =>
    intro a' w9 hS h0 hd
    have e32 : a'.tmps[32]?.getD undef = .slice b lb cb := evG (hd 30 List.mem_cons_self)
    refine Does2.call 66 #[.slice b lb cb] (w' := w9) ?_ ((lCloneA b lb cb ys w9 HXb.out (by omega) (HB.out.below (hS.mono hNs.out)) HNb.out).mono ?_)
    · clear hS h0 hd
      go_simp
    · rintro e w8 ⟨⟨a8, c8, rfl, hA8, hf8⟩, hb8⟩
      exact ⟨_, rfl, ⟨a8, c8, rfl, hA8, flat_nil' hf8⟩, hS.trans (hb8.mono hS.size), cR_below hb8⟩
  case refine_33 =>
    intro a' w9 hS h0 hd
    obtain ⟨a33, c33, e33, h33, n33⟩ := hd 31 List.mem_cons_self
    replace e33 := evG e33
    refine Does2.value (.agg #[.int .u8 3, .int .u32 0, .slice a33 (ys).length c33]) (w' := w9) ?_ ⟨⟨a33, c33, rfl, h33, n33⟩, hS, cR_refl _ _⟩
    clear hS h0 hd h33
    go_simp
  case refine_34 =>
    intro a' w9 hS h0 hd
    obtain ⟨a33, c33, e34, h33, n33⟩ := hd 32 List.mem_cons_self
    replace e34 := evG e34
    refine Does2.value (.slice (some ⟨w9.heap.size, 0, none⟩) 1 1) (w' := w9.alloc (.cells #[.int .u8 3, .int .u32 0, .slice a33 (ys).length c33] 68)) ?_ ⟨⟨w9.heap.size, [⟨3, 0, ys, a33, c33⟩], rfl, recs_new1 (show RcOk w9 ⟨3, 0, ys, a33, c33⟩ from ⟨h33, n33⟩), rfl⟩, hS.alloc hS.size _, cR_below (bel1 w9 _)⟩
    clear hS h0 hd h33
    go_simp
  case refine_35 =>
    intro a' w9 hS h0 hd
    obtain ⟨B5, e5, hB5, hM5⟩ := hd 0 List.mem_cons_self
    replace e5 := evG e5
    have e31 : a'.tmps[31]?.getD undef = .agg #[.bool true, .bool false] := evG (hd 29 (List.mem_cons_of_mem _ List.mem_cons_self))
    obtain ⟨p35, rs35, e35, k35, m35⟩ := hd 33 (List.mem_cons_of_mem _ (List.mem_cons_of_mem _ List.mem_cons_self))
    replace e35 := evG e35
    obtain ⟨L5, hM5⟩ := hM5
    obtain ⟨w8, hrun, ⟨cl, hM8⟩, hb1, hbC⟩ := run_put2 hM5 (true, false) (.slice (some ⟨p35, 0, none⟩) 1 1)
    simp only [kv] at hrun
    refine Does2.skip (w' := w8) ?_ ⟨⟨B5, .agg #[.bool true, .bool false], .slice (some ⟨p35, 0, none⟩) 1 1, ?_, _, hM8, val_upd _ _ _ _⟩, hS.trans (hbC _ hB5), cR_put rfl hM5 hM8 hb1⟩
    · clear hS h0 hd k35 hM5 hM8 hb1 hbC
      go_simp
    · have q1 := hd 0 List.mem_cons_self
      have q2 := hd 29 (List.mem_cons_of_mem _ List.mem_cons_self)
      have q3 := hd 33 (List.mem_cons_of_mem _ (List.mem_cons_of_mem _ List.mem_cons_self))
      obtain ⟨B7, q1, hB7, hM7⟩ := q1
      have q5 : a'.eval (.tmp 5) = .map (some B5) := by simp [Act.eval, e5]
      have q6 : a'.eval (.tmp 31) = .agg #[.bool true, .bool false] := q2
      have q7 : a'.eval (.tmp 35) = .slice (some ⟨p35, 0, none⟩) 1 1 := by simp [Act.eval, e35]
      show [a'.eval (.tmp 5), a'.eval (.tmp 31), a'.eval (.tmp 35)] = _
      rw [q5, q6, q7]
  case refine_36 =>
    intro a' w9 hS h0 hd
    obtain ⟨B5, e5, hB5, hM5⟩ := hd 0 List.mem_cons_self
    replace e5 := evG e5
    have q5 : a'.eval (.tmp 5) = .map (some B5) := by simp [Act.eval, e5]
    refine Does2.value (.map (some B5)) (w' := w9) ?_ ⟨?_, hS, cR_refl _ _⟩
    · clear hS h0 hd hM5 q5
      go_simp
    · show [a'.eval (.tmp 5)] = [Value.map (some B5)]
      rw [q5]
  case refine_37 =>
    intro a' w9 hS h0 hd
    obtain ⟨v36, q36⟩ : ∃ v, a'.eval (.tmp 36) = v := ⟨_, rfl⟩
    have e36 := evG q36
    refine Does2.value v36 (w' := w9) ?_ ⟨?_, hS, cR_refl _ _⟩
    · clear hS h0 hd q36
      go_simp
    · show [a'.eval (.tmp 36)] = [v36]
      rw [q36]
  case hend =>
    intro f w9 hS hv
    obtain ⟨B5, v5, hB5, hM5⟩ := hv 0 (by decide)
    replace v5 : f 5 = .map (some B5) := v5
    have v36 : [f 5] = [f 36] := hv 35 (by decide)
    have v4 : [f 36] = [f 4] := hv 36 (by decide)
    rw [v5] at v36
    rw [← v36] at v4
    replace v4 : f 4 = .map (some B5) := by simpa using v4.symm
    obtain ⟨p15, rs15, v15, k15, m15⟩ := hv 10 (by decide)
    replace v15 : f 15 = .slice (some ⟨p15, 0, none⟩) 2 2 := v15
    obtain ⟨p25, rs25, v25, k25, m25⟩ := hv 21 (by decide)
    replace v25 : f 25 = .slice (some ⟨p25, 0, none⟩) 2 2 := v25
    obtain ⟨p30, rs30, v30, k30, m30⟩ := hv 27 (by decide)
    replace v30 : f 30 = .slice (some ⟨p30, 0, none⟩) 1 1 := v30
    obtain ⟨p35, rs35, v35, k35, m35⟩ := hv 33 (by decide)
    replace v35 : f 35 = .slice (some ⟨p35, 0, none⟩) 1 1 := v35
    obtain ⟨B1, x1, sl1, u15, L15, M15, w15⟩ := hv 11 (by decide)
    replace u15 : [f 5, f 6, f 15] = [.map (some B1), x1, sl1] := u15
    rw [v5, v15] at u15
    simp only [List.cons.injEq, Value.map.injEq, Option.some.injEq] at u15
    obtain ⟨rfl, -, rfl, -⟩ := u15
    obtain ⟨B1, x1, sl1, u25, L25, M25, w25⟩ := hv 22 (by decide)
    replace u25 : [f 5, f 16, f 25] = [.map (some B1), x1, sl1] := u25
    rw [v5, v25] at u25
    simp only [List.cons.injEq, Value.map.injEq, Option.some.injEq] at u25
    obtain ⟨rfl, -, rfl, -⟩ := u25
    obtain ⟨B1, x1, sl1, u30, L30, M30, w30⟩ := hv 28 (by decide)
    replace u30 : [f 5, f 26, f 30] = [.map (some B1), x1, sl1] := u30
    rw [v5, v30] at u30
    simp only [List.cons.injEq, Value.map.injEq, Option.some.injEq] at u30
    obtain ⟨rfl, -, rfl, -⟩ := u30
    obtain ⟨B1, x1, sl1, u35, L35, M35, w35⟩ := hv 34 (by decide)
    replace u35 : [f 5, f 31, f 35] = [.map (some B1), x1, sl1] := u35
    rw [v5, v35] at u35
    simp only [List.cons.injEq, Value.map.injEq, Option.some.injEq] at u35
    obtain ⟨rfl, -, rfl, -⟩ := u35
    have l15 := congrArg List.length m15
    have l25 := congrArg List.length m25
    have l30 := congrArg List.length m30
    have l35 := congrArg List.length m35
    simp only [List.length_map, chg, List.length_cons, List.length_nil] at l15 l25 l30 l35
    have ans : ∃ B, Ending.returned (.map (some B5)) = .returned (.map (some B)) ∧ (∀ p q, ∃ a' c' rs L, MapC w9 B L ∧ val (p, q) L = some (.slice a' (List.length rs) c') ∧ Rcs w9 a' rs ∧ rs.map Rc.nm = chg p q xs ys) ∧ Below w.heap.size w w9 := by
      refine ⟨B5, rfl, fun p q => ?_, hS⟩
      cases p <;> cases q
      · exact ⟨_, 2, rs15, L15, M15, by rw [l15]; exact w15, k15, m15⟩
      · exact ⟨_, 1, rs30, L30, M30, by rw [l30]; exact w30, k30, m30⟩
      · exact ⟨_, 1, rs35, L35, M35, by rw [l35]; exact w35, k35, m35⟩
      · exact ⟨_, 2, rs25, L25, M25, by rw [l25]; exact w25, k25, m25⟩
    have ANS := Lib.hid ans
    simp only [putAll, Act.put, List.setIfInBounds_toArray, List.set_cons_zero, List.set_cons_succ, v4]
    clear hS hv v5 v36 v4 v15 v25 v30 v35 k15 k25 k30 k35 m15 m25 m30 m35 M15 M25 M30 M35 w15 w25 w30 w35 l15 l25 l30 l35 hM5 ans
    go_wp2_with fail
    go_ret
    exact ANS.out
end Go.Proofs.Ytmcbbccbonadjaa
/- Change: what is said of a change. -/
namespace Go.Proofs.Ytmcbbccbonadjaa
set_option linter.unusedVariables false
open Go.RowKit

def ChgAt (w : World) (B : Nat) (xs ys : List Int) : Prop := ∀ p q, ∃ a' c' rs L, MapC w B L ∧ val (p, q) L = some (.slice a' (List.length rs) c') ∧ Rcs w a' rs ∧ rs.map Rc.nm = chg p q xs ys
theorem ChgAt.below {w w' : World} {B : Nat} {xs ys : List Int} (h : ChgAt w B xs ys) (hb : Below w.heap.size w w') : ChgAt w' B xs ys := fun p q => by
  obtain ⟨a', c', rs, L, h1, h2, h3, h4⟩ := h p q
  exact ⟨a', c', rs, L, h1.below hb, h2, h3.below hb, h4⟩
def Rc.cs (r : Rc) : List Value := [.int .u8 r.ty, .int .u32 r.g, r.sl]
def rv (rs : List Rc) : List Value := rs.flatMap Rc.cs
theorem rv_snoc (rs : List Rc) (r : Rc) : rv (rs ++ [r]) = rv rs ++ r.cs := by simp [rv]
theorem rv_len (rs : List Rc) : (rv rs).length = rs.length * 3 := by
  induction rs with
  | nil => rfl
  | cons s r ih => simp only [rv, List.flatMap_cons, List.length_append, List.length_cons] at *; rw [ih]; simp [Rc.cs]; omega
theorem rv_at (rs : List Rc) : ∀ (k : Nat) (r : Rc), rs[k]? = some r → ∀ j, j < 3 → (rv rs)[k * 3 + j]? = r.cs[j]? := by
  induction rs with
  | nil => intro k s h; simp at h
  | cons t r ih =>
    intro k s h j hj
    have e : rv (t :: r) = t.cs ++ rv r := by simp [rv]
    rw [e]
    cases k with
    | zero =>
      simp at h; subst h
      rw [List.getElem?_append_left (by simp [Rc.cs]; omega)]
      simp
    | succ k =>
      have h' : r[k]? = some s := by simpa using h
      rw [List.getElem?_append_right (by simp [Rc.cs]; omega)]
      rw [show (k + 1) * 3 + j - (Rc.cs t).length = k * 3 + j by simp [Rc.cs]; omega]
      exact ih k s h' j hj
theorem own_rcs {w : World} {B n : Nat} {a : Option Addr} {c : Nat} {rs : List Rc} (h : w.ownsRow B 68 3 (.slice a n c) n (rv rs)) (hn : rs.length = n) (hf : ∀ r ∈ rs, RcOk w r) : Rcs w a rs := by
  by_cases h0 : n = 0
  · exact .inl (List.eq_nil_of_length_eq_zero (by omega))
  obtain ⟨g, rfl, _, _, hc⟩ := own_at h (by omega)
  refine .inr ⟨g, 0, rfl, fun k r hk => ⟨⟨?_, ?_, ?_⟩, hf r (List.mem_of_getElem? hk)⟩⟩
  · exact hc (0 + k * 3) _ (by rw [Nat.zero_add]; exact rv_at rs k r hk 0 (by omega))
  · exact hc (0 + k * 3 + 1) _ (by rw [Nat.zero_add]; exact rv_at rs k r hk 1 (by omega))
  · exact hc (0 + k * 3 + 2) _ (by rw [Nat.zero_add]; exact rv_at rs k r hk 2 (by omega))
theorem Rcs.mem {w : World} {a : Option Addr} {rs : List Rc} (h : Rcs w a rs) {r : Rc} (hr : r ∈ rs) : RcOk w r := by
  obtain ⟨k, hk, e⟩ := List.getElem_of_mem hr
  obtain ⟨b, off, _, hc⟩ := h.at hk
  exact (hc k r (by rw [List.getElem?_eq_getElem hk, e])).2
theorem RcOk.below {w w' : World} {r : Rc} (h : RcOk w r) (hb : Below w.heap.size w w') : RcOk w' r := ⟨h.1.below hb, h.2⟩
/-- Records that are said, of a group. -/
def keep (r : Rc) : Bool := decide (0 < r.srcs.length) || (r.ty == 4) || (r.ty == 3)
def said (g : Int) (rs : List Rc) : List Rc := (rs.filter keep).map fun r => ⟨r.ty, g, r.srcs, r.a, r.c⟩
theorem said_yes {g : Int} {rs : List Rc} {r : Rc} (h : keep r = true) : said g (rs ++ [r]) = said g rs ++ [⟨r.ty, g, r.srcs, r.a, r.c⟩] := by simp [said, List.filter_append, h]
theorem said_no {g : Int} {rs : List Rc} {r : Rc} (h : keep r = false) : said g (rs ++ [r]) = said g rs := by simp [said, List.filter_append, h]
theorem said_nm (g : Int) (rs : List Rc) : (said g rs).map Rc.nm = said g (rs.map Rc.nm) := by
  unfold said; rw [List.filter_map, List.map_map, List.map_map]; rfl
theorem said_len (g : Int) (rs : List Rc) : (said g rs).length ≤ rs.length := by unfold said; rw [List.length_map]; exact List.length_filter_le _ _
def change (g : Int) (e1 : Bool) (xs : List Int) (e2 : Bool) (ys : List Int) : List Rc := said g (chg e1 e2 xs ys)
theorem chg_len (p q : Bool) (xs ys : List Int) : (chg p q xs ys).length ≤ 2 := by cases p <;> cases q <;> simp [chg]
/-- Records that are handed back. -/
def OutR (w : World) (e : Ending) (w' : World) (R : List Rc) : Prop :=
  (∃ a c rs, e = .returned (.slice a (List.length rs) c) ∧ rs.map Rc.nm = R.map Rc.nm ∧ Rcs w' a rs ∧ (a = none → c = 0)) ∧ Below w.heap.size w w'
theorem filt_new (w : World) (v0 v1 : Value) : (w.alloc (.cells #[v0, v1] 25)).cell? ⟨w.heap.size, 0, none⟩ = some v0 ∧ (w.alloc (.cells #[v0, v1] 25)).cell? ⟨w.heap.size, 1, none⟩ = some v1 := by
  have hN := Go.Deep.blk_alloc_new w (.cells #[v0, v1] 25)
  exact ⟨by simp only [World.cell?, hN]; rfl, by simp only [World.cell?, hN]; rfl⟩
def chV (N : Nat) (a : Option Addr) (la ca : Nat) (b : Option Addr) (lb cb : Nat) (xs ys : List Int) (e1 e2 : Bool) : Nat → Value → List Value → World → Prop
  | 0, v, _, _ => v = .pointer (some ⟨N, 1, none⟩)
  | 1, v, _, _ => v = .slice a la ca
  | 2, v, _, _ => v = .pointer (some ⟨N + 1, 1, none⟩)
  | 3, v, _, _ => v = .slice b lb cb
  | 4, v, _, w => ∃ B14, v = .map (some B14) ∧ ChgAt w B14 xs ys
  | 5, v, _, _ => v = .pointer (some ⟨N, 0, none⟩)
  | 6, v, _, _ => v = .bool e1
  | 7, v, _, _ => v = .pointer (some ⟨N + 1, 0, none⟩)
  | 8, v, _, _ => v = .bool e2
  | 9, v, _, _ => v = .agg #[.bool e1, .bool e2]
  | 10, v, _, w => ∃ (a20 : Option Addr) (c20 : Nat) (rs20 : List Rc), v = .slice a20 (chg e1 e2 xs ys).length c20 ∧ Rcs w a20 rs20 ∧ rs20.map Rc.nm = chg e1 e2 xs ys
  | 11, v, _, _ => v = .int .i64 ((chg e1 e2 xs ys).length : Nat)
  | 12, v, _, _ => v = .int .i64 0
  | _, _, _, _ => True
def chD : Nat → List Nat
  | 1 => [0]
  | 3 => [2]
  | 4 => [1, 3]
  | 6 => [5]
  | 8 => [7]
  | 9 => [6, 8]
  | 10 => [4, 9]
  | 11 => [10]
  | _ => []
theorem ch_st (N : Nat) (a : Option Addr) (la ca : Nat) (b : Option Addr) (lb cb : Nat) (xs ys : List Int) (e1 e2 : Bool) {i : Nat} {v : Value} {us : List Value} {w w' : World}  (hr : Below w.heap.size w w') (hv : chV N a la ca b lb cb xs ys e1 e2 i v us w) : chV N a la ca b lb cb xs ys e1 e2 i v us w' := by
  unfold chV at hv ⊢
  split at hv
  all_goals first
    | exact hv
    | (obtain ⟨B14, e, h14⟩ := hv; exact ⟨B14, e, h14.below hr⟩)
    | (obtain ⟨a20, c20, rs20, e, k20, m20⟩ := hv; exact ⟨a20, c20, rs20, e, k20.below hr, m20⟩)
set_option maxRecDepth 100000 in
set_option maxHeartbeats 16000000 in
theorem hChange (g : Int) (e1 e2 : Bool) (a b : Option Addr) (la lb ca cb : Nat) (xs ys : List Int) (w : World) (hx : xs.length = la) (hy : ys.length = lb) (hla : la ≤ 200000) (hlb : lb ≤ 200000) (h1 : As w a xs) (h2 : As w b ys) (hnb : b = none → cb = 0) :
    Calls Try.prog 26 #[.int .u32 g, .agg #[.bool e1, .slice a la ca], .agg #[.bool e2, .slice b lb cb]] w fun e w' => OutR w e w' (change g e1 xs e2 ys) := by
  obtain ⟨i0, hi, hz0, hz1, hz2⟩ := info_parts infoRec
  have hb2 := bel2 w (.cells #[.bool e1, .slice a la ca] 25) (.cells #[.bool e2, .slice b lb cb] 25)
  obtain ⟨p0, p1⟩ := filt_new w (.bool e1) (.slice a la ca)
  obtain ⟨q0, q1⟩ := filt_new (w.alloc (.cells #[.bool e1, .slice a la ca] 25)) (.bool e2) (.slice b lb cb)
  rw [World.size_alloc] at q0 q1
  have hb1 := bel1 (w.alloc (.cells #[.bool e1, .slice a la ca] 25)) (.cells #[.bool e2, .slice b lb cb] 25)
  have CA0 := Lib.hid ((hb1.cell (cell_lt p0)).trans p0)
  have CA1 := Lib.hid ((hb1.cell (cell_lt p1)).trans p1)
  have CB0 := Lib.hid q0
  have CB1 := Lib.hid q1
  have HBW := Lib.hid hb2
  have HCH := Lib.hid (fun W (hW : Below ((w.alloc (.cells #[.bool e1, .slice a la ca] 25)).alloc (.cells #[.bool e2, .slice b lb cb] 25)).heap.size ((w.alloc (.cells #[.bool e1, .slice a la ca] 25)).alloc (.cells #[.bool e2, .slice b lb cb] 25)) W) => hChanges a b la lb ca cb xs ys W hx hy hla hlb ((h1.below hb2).below hW) ((h2.below hb2).below hW) hnb)
  clear hx hy h1 h2 hnb p0 p1 q0 q1 hb1 hb2
  go_enter Try.func26, Try.ntmps26
  go_wp2_with fail
  generalize (w.alloc (.cells #[.bool e1, .slice a la ca] 25)).alloc (.cells #[.bool e2, .slice b lb cb] 25) = w1 at *
  refine wp_region_each3 (chV w.heap.size a la ca b lb cb xs ys e1 e2) (fun W => Below w1.heap.size w1 W) (fun _ A B => Below A.heap.size A B) chD [10, 11, 12, 13, 14, 15, 16, 17, 18, 19, 20, 21, 22] (by kernel_rfl) (by kernel_rfl) (by kernel_rfl) (Below.refl _ w1).drew
    (fun i j oi oj v us A B hoi hoj hij hw hSA hr hv => ch_st _ _ _ _ _ _ _ _ _ _ _ hr hv) ?hgd
    ⟨?_, ?_, ?_, ?_, ?_, ?_, ?_, ?_, ?_, ?_, ?_, ?_, ?_, trivial⟩ ?hend
  case hgd =>
    intro i o g b hoi hog v us w hv
    have hi : i < 13 := (Array.getElem?_eq_some_iff.1 hoi).1
    have hc : i = 0 ∨ i = 1 ∨ i = 2 ∨ i = 3 ∨ i = 4 ∨ i = 5 ∨ i = 6 ∨ i = 7 ∨ i = 8 ∨ i = 9 ∨ i = 10 ∨ i = 11 ∨ i = 12 := by omega
    rcases hc with rfl | rfl | rfl | rfl | rfl | rfl | rfl | rfl | rfl | rfl | rfl | rfl | rfl
    · cases hoi; cases hog
    · cases hoi; cases hog
    · cases hoi; cases hog
    · cases hoi; cases hog
    · cases hoi; cases hog
    · cases hoi; cases hog
    · cases hoi; cases hog
    · cases hoi; cases hog
    · cases hoi; cases hog
    · cases hoi; cases hog
    · cases hoi; cases hog
    · cases hoi; cases hog
    · cases hoi; cases hog
  case refine_1 =>
    intro a' w9 hS h0 hd
    have e4 : a'.tmps[4]?.getD undef = .pointer (some ⟨w.heap.size, 0, none⟩) := evG (h0 4 (by kernel_rfl))
    refine Does2.value (.pointer (some ⟨w.heap.size, 1, none⟩)) (w' := w9) ?_ ⟨rfl, hS, Below.refl _ _⟩
    clear hS h0 hd
    go_simp
  case refine_2 =>
    intro a' w9 hS h0 hd
    have e10 : a'.tmps[10]?.getD undef = .pointer (some ⟨w.heap.size, 1, none⟩) := evG (hd 0 List.mem_cons_self)
    have c1 := (hS.cell (cell_lt CA1.out)).trans CA1.out
    refine Does2.value (.slice a la ca) (w' := w9) ?_ ⟨rfl, hS, Below.refl _ _⟩
    clear hS h0 hd
    go_simp
  case refine_3 =>
    intro a' w9 hS h0 hd
    have e5 : a'.tmps[5]?.getD undef = .pointer (some ⟨w.heap.size + 1, 0, none⟩) := evG (h0 5 (by kernel_rfl))
    refine Does2.value (.pointer (some ⟨w.heap.size + 1, 1, none⟩)) (w' := w9) ?_ ⟨rfl, hS, Below.refl _ _⟩
    clear hS h0 hd
    go_simp
  case refine_4 =>
    intro a' w9 hS h0 hd
    have e12 : a'.tmps[12]?.getD undef = .pointer (some ⟨w.heap.size + 1, 1, none⟩) := evG (hd 2 List.mem_cons_self)
    have c1 := (hS.cell (cell_lt CB1.out)).trans CB1.out
    refine Does2.value (.slice b lb cb) (w' := w9) ?_ ⟨rfl, hS, Below.refl _ _⟩
    clear hS h0 hd
    go_simp
  case refine_5 =>
    intro a' w9 hS h0 hd
    have e11 : a'.tmps[11]?.getD undef = .slice a la ca := evG (hd 1 List.mem_cons_self)
    have e13 : a'.tmps[13]?.getD undef = .slice b lb cb := evG (hd 3 (List.mem_cons_of_mem _ List.mem_cons_self))
    refine Does2.call 51 #[.slice a la ca, .slice b lb cb] (w' := w9) ?_ ((HCH.out w9 hS).mono ?_)
    · clear hS h0 hd
      go_simp
    · rintro e w8 ⟨B8, rfl, hC8, hb8⟩
      exact ⟨_, rfl, ⟨B8, rfl, hC8⟩, hS.trans (hb8.mono hS.size), hb8⟩
  case refine_6 =>
    intro a' w9 hS h0 hd
    have e4 : a'.tmps[4]?.getD undef = .pointer (some ⟨w.heap.size, 0, none⟩) := evG (h0 4 (by kernel_rfl))
    refine Does2.value (.pointer (some ⟨w.heap.size, 0, none⟩)) (w' := w9) ?_ ⟨rfl, hS, Below.refl _ _⟩
    clear hS h0 hd
    go_simp
  case refine_7 =>
    intro a' w9 hS h0 hd
    have e15 : a'.tmps[15]?.getD undef = .pointer (some ⟨w.heap.size, 0, none⟩) := evG (hd 5 List.mem_cons_self)
    have c1 := (hS.cell (cell_lt CA0.out)).trans CA0.out
    refine Does2.value (.bool e1) (w' := w9) ?_ ⟨rfl, hS, Below.refl _ _⟩
    clear hS h0 hd
    go_simp
  case refine_8 =>
    intro a' w9 hS h0 hd
    have e5 : a'.tmps[5]?.getD undef = .pointer (some ⟨w.heap.size + 1, 0, none⟩) := evG (h0 5 (by kernel_rfl))
    refine Does2.value (.pointer (some ⟨w.heap.size + 1, 0, none⟩)) (w' := w9) ?_ ⟨rfl, hS, Below.refl _ _⟩
    clear hS h0 hd
    go_simp
  case refine_9 =>
    intro a' w9 hS h0 hd
    have e17 : a'.tmps[17]?.getD undef = .pointer (some ⟨w.heap.size + 1, 0, none⟩) := evG (hd 7 List.mem_cons_self)
    have c1 := (hS.cell (cell_lt CB0.out)).trans CB0.out
    refine Does2.value (.bool e2) (w' := w9) ?_ ⟨rfl, hS, Below.refl _ _⟩
    clear hS h0 hd
    go_simp
  case refine_10 =>
    intro a' w9 hS h0 hd
    have e16 : a'.tmps[16]?.getD undef = .bool e1 := evG (hd 6 List.mem_cons_self)
    have e18 : a'.tmps[18]?.getD undef = .bool e2 := evG (hd 8 (List.mem_cons_of_mem _ List.mem_cons_self))
    refine Does2.value (.agg #[.bool e1, .bool e2]) (w' := w9) ?_ ⟨rfl, hS, Below.refl _ _⟩
    clear hS h0 hd
    go_simp
  case refine_11 =>
    intro a' w9 hS h0 hd
    obtain ⟨B14, e14, h14⟩ := hd 4 List.mem_cons_self
    replace e14 := evG e14
    have e19 : a'.tmps[19]?.getD undef = .agg #[.bool e1, .bool e2] := evG (hd 9 (List.mem_cons_of_mem _ List.mem_cons_self))
    obtain ⟨a8, c8, rs8, L8, q1, q2, q3, q4⟩ := h14 e1 e2
    have hl8 := congrArg List.length q4
    rw [List.length_map] at hl8
    have hrun := run_look2 q1 (e1, e2) _ q2
    simp only [kv] at hrun
    rw [hl8] at hrun
    refine Does2.value (.slice a8 (chg e1 e2 xs ys).length c8) (w' := w9) ?_ ⟨⟨a8, c8, rs8, rfl, q3, q4⟩, hS, Below.refl _ _⟩
    clear hS h0 hd h14 q1 q2 q3 q4 hl8
    go_simp
  case refine_12 =>
    intro a' w9 hS h0 hd
    obtain ⟨a20, c20, rs20, e20, k20, m20⟩ := hd 10 List.mem_cons_self
    replace e20 := evG e20
    refine Does2.value (.int .i64 ((chg e1 e2 xs ys).length : Nat)) (w' := w9) ?_ ⟨rfl, hS, Below.refl _ _⟩
    clear hS h0 hd k20 m20
    go_simp
  case refine_13 =>
    intro a' w9 hS h0 hd
    refine Does2.value (.int .i64 0) (w' := w9) ?_ ⟨rfl, hS, Below.refl _ _⟩
    clear hS h0 hd
    go_simp
  case hend =>
    intro f w9 hS hv
    obtain ⟨a20, c20, rs20, v20, k20, m20⟩ := hv 10 (by decide)
    replace v20 : f 20 = .slice a20 (chg e1 e2 xs ys).length c20 := v20
    have v21 := hv 11 (by decide)
    replace v21 : f 21 = .int .i64 ((chg e1 e2 xs ys).length : Nat) := v21
    have v22 := hv 12 (by decide)
    replace v22 : f 22 = .int .i64 0 := v22
    simp only [putAll, Act.put, List.setIfInBounds_toArray, List.set_cons_zero, List.set_cons_succ, v20, v21, v22]
    have HS := Lib.hid hS
    have K20 := Lib.hid k20
    have M20 := Lib.hid m20
    clear hS hv v20 v21 v22 k20 m20
    have hl20 := congrArg List.length M20.out
    rw [List.length_map] at hl20
    have HL20 := Lib.hid hl20
    have hle := chg_len e1 e2 xs ys
    obtain ⟨nn, hnn⟩ : ∃ nn, (chg e1 e2 xs ys).length = nn := ⟨_, rfl⟩
    rw [hnn] at hle HL20 ⊢
    have HB9 := Lib.hid (HBW.out.trans (HS.out.mono HBW.out.size))
    clear hnn hl20
    go_wp2_with fail
    go_loopw [7, 22] (fun v7 v22 wr => ∃ (k : Nat) (a7 : Option Addr) (c7 : Nat), v7 = .slice a7 (said g (rs20.take k)).length c7 ∧ v22 = .int .i64 (k : Int) ∧ k ≤ nn ∧ wr.ownsRow w9.heap.size 68 3 (.slice a7 (said g (rs20.take k)).length c7) (said g (rs20.take k)).length (rv (said g (rs20.take k))) ∧
        Below w9.heap.size w9 wr) (fun _ v _ => nn - (intOf v).toNat)
    case atStart => exact ⟨0, none, 0, by simp [said], rfl, by omega, by simpa [said, rv] using World.ownsRow_nil _ _ _ _, Below.refl _ _⟩
    case round =>
      obtain ⟨k, a7, c7, rfl, rfl, hk, ho, hB9⟩ := hrel
      have HO := Lib.hid ho
      have HBB := Lib.hid hB9
      have HB := Lib.hid (HB9.out.trans (hB9.mono HB9.out.size))
      have hol : (said g (rs20.take k)).length ≤ 2 := by have h1 := said_len g (rs20.take k); have h2 := List.length_take_le' k rs20; have h3 := HL20.out; omega
      clear ho hB9
      by_cases hlt : k < nn
      · obtain ⟨b0, off, rfl, hc⟩ := K20.out.at (k := k) (by rw [HL20.out]; exact hlt)
        obtain ⟨⟨ty, gr, srcs, fa, fc⟩, hfk⟩ : ∃ s, rs20[k]? = some s := ⟨_, List.getElem?_eq_getElem (by rw [HL20.out]; exact hlt)⟩
        obtain ⟨⟨d0, d1, d2⟩, hfo⟩ := (hc k _ hfk).below HBB.out
        simp only [Rc.sl] at d0 d1 d2
        obtain ⟨sn, hsn⟩ : ∃ sn, srcs.length = sn := ⟨_, rfl⟩
        rw [hsn] at d2
        have HSN := Lib.hid hsn
        clear hsn
        have HFK := Lib.hid hfk
        have hkz : (k : Int) < (nn : Int) := by omega
        have hn1 := news_new (wr.alloc (.cells #[.int .u8 ty, .int .u32 g, .slice fa sn fc] 68)) [.int .u8 ty, .int .u32 g, .slice fa sn fc] 68
        rw [World.size_alloc] at hn1
        have HN1 := Lib.hid hn1
        clear hc hfk hfo hn1
        have YES : keep ⟨ty, gr, srcs, fa, fc⟩ = true → ∀ (a' : Option Addr) (cap' : Nat) (w' : World), w'.ownsRow w9.heap.size 68 3 (.slice a' ((said g (rs20.take k)).length + 1) cap') ((said g (rs20.take k)).length + 1) (rv (said g (rs20.take k)) ++ [.int .u8 ty, .int .u32 g, .slice fa sn fc]) → w'.ownsRow w9.heap.size 68 3 (.slice a' (said g (rs20.take (k + 1))).length cap') (said g (rs20.take (k + 1))).length (rv (said g (rs20.take (k + 1)))) := fun h a' cap' w' h1 => by
          rw [takeS HFK.out, said_yes h, List.length_append, rv_snoc]; rw [← HSN.out] at h1; exact h1
        have YEL : keep ⟨ty, gr, srcs, fa, fc⟩ = true → (said g (rs20.take (k + 1))).length = (said g (rs20.take k)).length + 1 := fun h => by rw [takeS HFK.out, said_yes h, List.length_append]; rfl
        have Y1 := Lib.hid YES
        have Y2 := Lib.hid YEL
        clear YES YEL
        by_cases t1 : 0 < sn
        · have t1' : (0 : Int) < (sn : Int) := by omega
          have KP : Hid (keep ⟨ty, gr, srcs, fa, fc⟩ = true) := Lib.hid (by simp [keep, HSN.out, t1])
          clear t1
          go_wp2_with ((refine wpList_app_cell rfl 42 68 i0 _ 3 32 Try.underlying42 hi hz0 hz1 hz2 rfl (by decide) (by omega) (.tmp 42) (.tmp 44) rfl w9.heap.size _ (said g (rs20.take k)).length (rv (said g (rs20.take k))) rfl ((HO.out.alloc _).alloc _) ⟨wr.heap.size + 1, 0, none⟩ 1 [.int .u8 ty, .int .u32 g, .slice fa sn fc] rfl rfl HN1.out (by simp [Value.oneCell']) (by omega) (by have := HBB.out.size; simp; omega) ?_; intro a' cap' w' hown hg))
          go_roundw
          case rel =>
            have hgb : Below w9.heap.size wr w' := ((((Below.refl w9.heap.size wr).alloc HBB.out.size _).alloc (by have := HBB.out.size; simp; omega) _).trans (grown_below ((HO.out.alloc _).alloc _) hg.out (by have := HBB.out.size; simp; omega)))
            exact ⟨k + 1, a', cap', by rw [Y2.out KP.out], by go_num, by omega, Y1.out KP.out a' cap' w' hown.out, HBB.out.trans hgb⟩
          case measure => simp [intOf]; omega
        · obtain rfl : sn = 0 := by omega
          by_cases t2 : ty = 4
          · subst t2
            have KP : Hid (keep ⟨4, gr, srcs, fa, fc⟩ = true) := Lib.hid (by simp [keep])
            clear t1
            go_wp2_with ((refine wpList_app_cell rfl 42 68 i0 _ 3 32 Try.underlying42 hi hz0 hz1 hz2 rfl (by decide) (by omega) (.tmp 42) (.tmp 44) rfl w9.heap.size _ (said g (rs20.take k)).length (rv (said g (rs20.take k))) rfl ((HO.out.alloc _).alloc _) ⟨wr.heap.size + 1, 0, none⟩ 1 [.int .u8 4, .int .u32 g, .slice fa 0 fc] rfl rfl HN1.out (by simp [Value.oneCell']) (by omega) (by have := HBB.out.size; simp; omega) ?_; intro a' cap' w' hown hg))
            go_roundw
            case rel =>
              have hgb : Below w9.heap.size wr w' := ((((Below.refl w9.heap.size wr).alloc HBB.out.size _).alloc (by have := HBB.out.size; simp; omega) _).trans (grown_below ((HO.out.alloc _).alloc _) hg.out (by have := HBB.out.size; simp; omega)))
              exact ⟨k + 1, a', cap', by rw [Y2.out KP.out], by go_num, by omega, Y1.out KP.out a' cap' w' hown.out, HBB.out.trans hgb⟩
            case measure => simp [intOf]; omega
          · have t2' : (ty == 4) = false := by simpa using t2
            by_cases t3 : ty = 3
            · subst t3
              have KP : Hid (keep ⟨3, gr, srcs, fa, fc⟩ = true) := Lib.hid (by simp [keep])
              clear t1 t2 t2'
              go_wp2_with ((refine wpList_app_cell rfl 42 68 i0 _ 3 32 Try.underlying42 hi hz0 hz1 hz2 rfl (by decide) (by omega) (.tmp 42) (.tmp 44) rfl w9.heap.size _ (said g (rs20.take k)).length (rv (said g (rs20.take k))) rfl ((HO.out.alloc _).alloc _) ⟨wr.heap.size + 1, 0, none⟩ 1 [.int .u8 3, .int .u32 g, .slice fa 0 fc] rfl rfl HN1.out (by simp [Value.oneCell']) (by omega) (by have := HBB.out.size; simp; omega) ?_; intro a' cap' w' hown hg))
              go_roundw
              case rel =>
                have hgb : Below w9.heap.size wr w' := ((((Below.refl w9.heap.size wr).alloc HBB.out.size _).alloc (by have := HBB.out.size; simp; omega) _).trans (grown_below ((HO.out.alloc _).alloc _) hg.out (by have := HBB.out.size; simp; omega)))
                exact ⟨k + 1, a', cap', by rw [Y2.out KP.out], by go_num, by omega, Y1.out KP.out a' cap' w' hown.out, HBB.out.trans hgb⟩
              case measure => simp [intOf]; omega
            · have t3' : (ty == 3) = false := by simpa using t3
              have KP : Hid (keep ⟨ty, gr, srcs, fa, fc⟩ = false) := Lib.hid (by simp [keep, HSN.out, t2, t3])
              clear t1
              go_wp2
              go_roundw
              case rel =>
                have e : said g (rs20.take (k + 1)) = said g (rs20.take k) := by rw [takeS HFK.out, said_no KP.out]
                exact ⟨k + 1, a7, c7, by rw [e], by go_num, by omega, by rw [e]; exact HO.out.alloc _, HBB.out.alloc HBB.out.size _⟩
              case measure => simp [intOf]; omega
      · obtain rfl : k = nn := by omega
        have htk : rs20.take k = rs20 := List.take_of_length_le (by rw [HL20.out]; exact Nat.le_refl _)
        have HO' := HO.out
        rw [htk] at HO' hol ⊢
        have HO2 := Lib.hid HO'
        clear HO HO' htk
        go_wp2_with fail
        go_ret
        have hr := own_rcs HO2.out rfl (fun r hr => by
          obtain ⟨s, hs, rfl⟩ := List.mem_map.1 hr
          have := (K20.out.mem (List.mem_filter.1 hs).1).below HBB.out
          exact ⟨this.1, this.2⟩)
        obtain ⟨a', c', e', hfl⟩ := own_sl HO2.out
        cases e'
        exact ⟨⟨_, _, said g rs20, rfl, by unfold change; rw [said_nm, said_nm, M20.out]; congr 1; cases e1 <;> cases e2 <;> rfl, hr, flat_nil' hfl⟩, HB.out⟩
end Go.Proofs.Ytmcbbccbonadjaa
