/- A message's bytes, plainly. -/
import Derived.Test.YtmcnanoamgkljaaQ0
import Derived.Test.YtmcnanoamgkljaaQ1
import Derived.Test.YtmcnanoamgkljaaQ2
import Derived.Test.YtmcnanoamgkljaaQ3
import Derived.Maps.AppendAt
import Derived.Deep.AppendLies
import Derived.OwnWalk
import Derived.Deep.RegionHeld3
namespace Go.Proofs.Ytmcnanoamgkljaa
set_option linter.unusedVariables false

/-- A number in two bytes. -/
def two (n : Nat) : List Int := [(n : Int) / 256 % 256, (n : Int) % 256]
/-- Addresses, one behind the other. -/
def ads : List Int → List Int
  | [] => []
  | a :: l => l4 a ++ ads l
/-- A record's bytes. -/
def recB (r : Rec) : List Int := [r.typ, 0] ++ two r.srcs.length ++ l4 r.grp ++ ads r.srcs
def recsB : List Rec → List Int
  | [] => []
  | r :: l => recB r ++ recsB l
/-- What a report has behind its sum. -/
def repB (l : List Rec) : List Int := [0, 0] ++ two l.length ++ recsB l
/-- What a query of version 3 has behind its group. -/
def besB (m : Msg) : List Int := [m.rob + (if m.quiet then 8 else 0), m.every] ++ two m.srcs.length ++ ads m.srcs
/-- A message's bytes, the sum 0. -/
def enc0 (m : Msg) : List Int := [m.kind, m.code, 0, 0] ++ (if m.kind = 34 then repB m.recs else l4 m.grp) ++ (if m.ver = 3 then besB m else [])
/-- A message's bytes. -/
def encM (m : Msg) : List Int := putS (enc0 m) 2
theorem ads_len : ∀ l : List Int, (ads l).length = 4 * l.length
  | [] => rfl
  | a :: l => by simp only [ads, List.length_append, l4_len, ads_len l, List.length_cons]; omega
theorem recB_len (r : Rec) : (recB r).length = 8 + 4 * r.srcs.length := by simp [recB, two, l4_len, ads_len]; omega
def recsN : List Rec → Nat
  | [] => 0
  | r :: l => 8 + 4 * r.srcs.length + recsN l
theorem recsB_len : ∀ l : List Rec, (recsB l).length = recsN l
  | [] => rfl
  | r :: l => by simp only [recsB, List.length_append, recB_len, recsB_len l, recsN]
theorem isB_two (n : Nat) : IsB (two n) := isB_cons.2 ⟨by omega, isB_cons.2 ⟨by omega, isB_nil⟩⟩
/-- Numbers of addresses. -/
def IsA (l : List Int) : Prop := ∀ k, k < l.length → 0 ≤ l.getD k 0 ∧ l.getD k 0 ≤ 4294967295
theorem isA_cons {a : Int} {l : List Int} : IsA (a :: l) ↔ (0 ≤ a ∧ a ≤ 4294967295) ∧ IsA l := by
  constructor
  · intro h
    exact ⟨h 0 (by simp), fun k hk => h (k + 1) (by simpa using hk)⟩
  · rintro ⟨h1, h2⟩ k hk
    cases k with
    | zero => exact h1
    | succ k => exact h2 k (by simpa using hk)
theorem isB_ads : ∀ {l : List Int}, IsA l → IsB (ads l)
  | [], _ => isB_nil
  | a :: l, h => isB_append (isB_l4 (isA_cons.1 h).1) (isB_ads (isA_cons.1 h).2)
/-- A record's numbers. -/
def RecOk (r : Rec) : Prop := (0 ≤ r.typ ∧ r.typ ≤ 255) ∧ (0 ≤ r.grp ∧ r.grp ≤ 4294967295) ∧ IsA r.srcs
theorem isB_recB {r : Rec} (h : RecOk r) : IsB (recB r) :=
  isB_append (isB_append (isB_append (isB_cons.2 ⟨h.1, isB_cons.2 ⟨by omega, isB_nil⟩⟩) (isB_two _)) (isB_l4 h.2.1)) (isB_ads h.2.2)
theorem isB_recsB : ∀ {l : List Rec}, (∀ r ∈ l, RecOk r) → IsB (recsB l)
  | [], _ => isB_nil
  | r :: l, h => isB_append (isB_recB (h r (by simp))) (isB_recsB fun r' hr => h r' (by simp [hr]))
/-- A message's numbers, and its rows'. -/
def Msg.fit (m : Msg) : Prop := m.ok ∧ IsA m.srcs ∧ ∀ r ∈ m.recs, RecOk r
theorem isB_enc0 {m : Msg} (h : m.fit) (hr : m.ver = 3 → m.rob < 8) : IsB (enc0 m) := by
  obtain ⟨⟨hk, hv, hc, hg, hrb, he, _, _⟩, ha, hl⟩ := h
  unfold enc0
  refine isB_append (isB_append ?_ ?_) ?_
  · exact isB_cons.2 ⟨hk, isB_cons.2 ⟨hc, isB_cons.2 ⟨by omega, isB_cons.2 ⟨by omega, isB_nil⟩⟩⟩⟩
  · split
    · exact isB_append (isB_append (isB_cons.2 ⟨by omega, isB_cons.2 ⟨by omega, isB_nil⟩⟩) (isB_two _)) (isB_recsB hl)
    · exact isB_l4 hg
  · split
    · next h3 =>
      refine isB_append (isB_append (isB_cons.2 ⟨?_, isB_cons.2 ⟨he, isB_nil⟩⟩) (isB_two _)) (isB_ads ha)
      have := hr h3
      split <;> omega
    · exact isB_nil
theorem enc0_len (m : Msg) : (enc0 m).length = (if m.kind = 34 then 8 + recsN m.recs else 8) + (if m.ver = 3 then 4 + 4 * m.srcs.length else 0) := by
  unfold enc0
  simp only [List.length_append]
  split <;> split <;> simp [repB, besB, two, recsB_len, ads_len, l4_len] <;> omega
theorem ads_take_succ {l : List Int} {k : Nat} (h : k < l.length) : ads (l.take (k + 1)) = ads (l.take k) ++ l4 (l.getD k 0) := by
  induction l generalizing k with
  | nil => simp at h
  | cons x l ih =>
    cases k with
    | zero => simp [ads]
    | succ k =>
      simp only [List.take_succ_cons, ads, List.append_assoc]
      rw [ih (by simpa using h)]
      simp
theorem recsB_take_succ {l : List Rec} {k : Nat} {r : Rec} (h : l[k]? = some r) : recsB (l.take (k + 1)) = recsB (l.take k) ++ recB r := by
  induction l generalizing k with
  | nil => simp at h
  | cons x l ih =>
    cases k with
    | zero => simp at h; subst h; simp [recsB]
    | succ k =>
      simp only [List.getElem?_cons_succ] at h
      simp only [List.take_succ_cons, recsB, List.append_assoc]
      rw [ih h]
theorem recsN_le : ∀ {l : List Rec}, (l.all okR) = true → recsN l ≤ 264 * l.length
  | [], _ => by simp [recsN]
  | r :: l, h => by
    simp only [List.all_cons, Bool.and_eq_true] at h
    have h1 := recsN_le h.2
    have h2 : r.srcs.length ≤ 64 := by
      have := h.1
      simp only [okR, Bool.and_eq_true, decide_eq_true_eq] at this
      exact this.2
    simp only [recsN, List.length_cons]
    omega
end Go.Proofs.Ytmcnanoamgkljaa
/- append onto a row of bytes of the call's own, with what stays as it was; a number's two bytes, addresses' bytes (igmp.two, igmp.all). -/
namespace Go.Proofs.Ytmcnanoamgkljaa
set_option linter.unusedVariables false
open Go.RowKit

theorem Ow.nil0 (w : World) (B : Nat) : Ow w B none 0 0 [] := ⟨World.ownsRow_nil _ _ _ _, rfl⟩
theorem Ow.lt {w : World} {B n cap : Nat} {a : Option Addr} {xs : List Int} (h : Ow w B a n cap xs) {g : Nat} (e : a = some ⟨g, 0, none⟩) : g < w.heap.size := by
  subst e
  rcases h.1.2 with ⟨e, _⟩ | ⟨g', c, cur, e, _, hg, _⟩
  · simp at e
  · simp at e
    obtain ⟨rfl, _⟩ := e
    exact (Array.getElem?_eq_some_iff.1 hg).1
theorem Ow.bsB {w : World} {B n cap : Nat} {a : Option Addr} {xs : List Int} (h : Ow w B a n cap xs) (hb : IsB xs) : Bs w a xs := h.bs hb
theorem Ow.ne {w : World} {B n cap X : Nat} {a : Option Addr} {xs : List Int} (h : Ow w B a n cap xs) (hX : w.heap.size ≤ X) : a ≠ some ⟨X, 0, none⟩ := fun e => by have := h.lt e; omega
theorem ow_new (w : World) (B n : Nat) (xs : List Int) (hB : B ≤ w.heap.size) (hl : xs.length = n) (hn : n ≤ 1000000) : Ow (w.alloc (.cells (vb xs).toArray 5)) B (some ⟨w.heap.size, 0, none⟩) n n xs :=
  ⟨⟨by rw [vb_len, hl]; omega, .inr ⟨w.heap.size, n, (vb xs).toArray, rfl, hB, Go.Deep.blk_alloc_new _ _, Nat.le_refl _, by unfold maxLen; omega, by rw [List.size_toArray, vb_len, hl]; omega, List.take_of_length_le (by show (vb xs).length ≤ _; rw [vb_len, hl]; omega)⟩⟩, hl⟩
/-- append(own, src...), src whatever holds bytes; what else there is stays as it was. -/
theorem wp_app_st {w : World} {o : Oper} {a : Act} {K : Act → World → Prop} {Q : Exit → Act → World → Prop} (s x : Operand)
    (ho : o.op = .call { callee := .builtin .append, args := #[s, x], argTypes := #[30, 30] }) (B : Nat) (a1 : Option Addr) (n cap : Nat) (xs : List Int) (hs : a.eval s = .slice a1 n cap) (hown : Ow w B a1 n cap xs)
    (a2 : Option Addr) (m c : Nat) (ys : List Int) (hx : a.eval x = .slice a2 m c) (hy : ys.length = m) (hb : Bs w a2 ys) (hnil : a2 = none → m = 0 ∧ c = 0) (hsz : n + m ≤ 1000000) (hB : B ≤ w.heap.size)
    (h : ∀ a' cap' w', Hid (Ow w' B a' (n + m) cap' (xs ++ ys)) → Hid (Below B w w') → Hid (∀ q, q < w.heap.size → a1 ≠ some ⟨q, 0, none⟩ → w'.heap[q]? = w.heap[q]? ∧ a' ≠ some ⟨q, 0, none⟩) → K (a.put o.dst (.slice a' (n + m) cap')) w') : o.wp Try.prog a w K Q := by
  obtain ⟨i0, hi, hz0, hz1, hz2⟩ := info_parts info8
  rcases ha : a2 with _ | ad
  · obtain ⟨rfl, rfl⟩ := hnil ha
    obtain rfl : ys = [] := List.eq_nil_of_length_eq_zero hy
    have hrun : (Builtin.append_ #[30, 30] o.type #[.slice a1 n cap, .slice none 0 0]).run Try.prog w = .ok (.slice a1 n cap) w := by
      rcases hown.1.2 with ⟨e, _⟩ | ⟨g, cap2, cur, e, _, _, hnc, _⟩
      · rw [e]; simp [Builtin.append_, run_underlying Try.underlying30, sizeOf, typeInfo, hi, Builtin.lenOf, Builtin.firstCells]
      · rw [e]; simp [Builtin.append_, run_underlying Try.underlying30, sizeOf, typeInfo, hi, Builtin.lenOf, Builtin.firstCells, hnc, storeCells]
    unfold Oper.wp execOp
    simp only [ho, resolve, invoke, builtin, Sem.run_bind, Sem.run_pure, Result.andThen_ok, List.map_toArray, List.map_cons, List.map_nil, hs, hx, ha, hrun]
    exact h a1 cap w (by rw [List.append_nil]; exact hown) (Below.refl _ _) (fun q _ hne => ⟨rfl, hne⟩)
  · obtain ⟨v', w', hrun, hown', hgrow, _, hpl⟩ := run_append_own_at (P := Try.prog) w B 30 o.type 5 i0 (.int .u8 0) 1 1 Try.underlying30 hi hz0 hz1 hz2 rfl (by decide) _ n (vb xs) hown.1 ad m c (vb ys) (by rw [vb_len, hy]; omega) (by
      intro j u hu
      obtain ⟨hj, rfl⟩ := vb_get hu
      rcases hb.1 with rfl | ⟨b, off, e, hc⟩
      · simp at hj
      · rw [ha] at e; cases e
        rw [add_flat]; exact hc j hj) (vb_oneCell ys) (by unfold maxLen; omega) (by omega) hB
    unfold Oper.wp execOp
    simp only [ho, resolve, invoke, builtin, Sem.run_bind, Sem.run_pure, Result.andThen_ok, List.map_toArray, List.map_cons, List.map_nil, hs, hx, ha, hrun]
    have hbel' : Below B w w' := (Below.refl B w).grown hgrow hB (own_ge hown.1)
    have hl : (xs ++ ys).length = n + m := by rw [List.length_append, hown.2, hy]
    rw [← vb_append] at hown'
    have hst : ∀ q, q < w.heap.size → a1 ≠ some ⟨q, 0, none⟩ → w'.heap[q]? = w.heap[q]? ∧ v'.ownBlock ≠ some q := by
      intro q hq hne
      have h1 : (Value.slice a1 n cap).ownBlock ≠ some q := by
        rcases hown.1.2 with ⟨e, _⟩ | ⟨g, c', cur, e, _⟩
        · rw [e]; simp [Value.ownBlock]
        · rw [e]; simp only [Value.slice.injEq] at e
          obtain ⟨rfl, _⟩ := e
          simp only [Value.ownBlock]
          intro e2; simp at e2; subst e2; exact hne rfl
      refine ⟨hgrow.block q hq (fun e => h1 e.symm), ?_⟩
      rcases hpl with e | e
      · rw [e]; exact h1
      · rw [e]; simp; omega
    rcases hown'.2 with ⟨rfl, e0⟩ | ⟨g, cap', cur, rfl, _⟩
    · have := h none 0 w' ⟨by rw [e0] at hown' ⊢; exact hown', hl⟩ hbel' (fun q hq hne => ⟨(hst q hq hne).1, by simp⟩)
      rw [e0] at this; exact this
    · exact h _ cap' w' ⟨hown', hl⟩ hbel' (fun q hq hne => ⟨(hst q hq hne).1, fun e => (hst q hq hne).2 (by simp at e; simp [Value.ownBlock, e])⟩)
theorem wpList_app_st {w : World} {ops : Array Oper} {rest : List Oper} {o : Oper} {a : Act} {Q : Exit → Act → World → Prop} (hgd : o.guard = none) (s x : Operand)
    (ho : o.op = .call { callee := .builtin .append, args := #[s, x], argTypes := #[30, 30] }) (B : Nat) (a1 : Option Addr) (n cap : Nat) (xs : List Int) (hs : a.eval s = .slice a1 n cap) (hown : Ow w B a1 n cap xs)
    (a2 : Option Addr) (m c : Nat) (ys : List Int) (hx : a.eval x = .slice a2 m c) (hy : ys.length = m) (hb : Bs w a2 ys) (hnil : a2 = none → m = 0 ∧ c = 0) (hsz : n + m ≤ 1000000) (hB : B ≤ w.heap.size)
    (h : ∀ a' cap' w', Hid (Ow w' B a' (n + m) cap' (xs ++ ys)) → Hid (Below B w w') → Hid (∀ q, q < w.heap.size → a1 ≠ some ⟨q, 0, none⟩ → w'.heap[q]? = w.heap[q]? ∧ a' ≠ some ⟨q, 0, none⟩) → wpList Try.prog ops Q rest (a.put o.dst (.slice a' (n + m) cap')) w') : wpList Try.prog ops Q (o :: rest) a w :=
  wpList_plain hgd fun _ hK => wp_app_st s x ho B a1 n cap xs hs hown a2 m c ys hx hy hb hnil hsz hB fun a' cap' w' h1 h2 h3 => hK _ _ (h a' cap' w' h1 h2 h3)
/-- The same in a region that draws its order. -/
theorem step_app_st {w : World} {ops : Array Oper} {o : Oper} {a : Act} {K : Act → World → Prop} {Q : Exit → Act → World → Prop} {E : Prop} (hgd : o.guard = none) (s x : Operand)
    (ho : o.op = .call { callee := .builtin .append, args := #[s, x], argTypes := #[30, 30] }) (B : Nat) (a1 : Option Addr) (n cap : Nat) (xs : List Int) (hs : a.eval s = .slice a1 n cap) (hown : Ow w B a1 n cap xs)
    (a2 : Option Addr) (m c : Nat) (ys : List Int) (hx : a.eval x = .slice a2 m c) (hy : ys.length = m) (hb : Bs w a2 ys) (hnil : a2 = none → m = 0 ∧ c = 0) (hsz : n + m ≤ 1000000) (hB : B ≤ w.heap.size)
    (h : ∀ a' cap' w', Hid (Ow w' B a' (n + m) cap' (xs ++ ys)) → Hid (Below B w w') → Hid (∀ q, q < w.heap.size → a1 ≠ some ⟨q, 0, none⟩ → w'.heap[q]? = w.heap[q]? ∧ a' ≠ some ⟨q, 0, none⟩) → K (a.put o.dst (.slice a' (n + m) cap')) w') :
    if Region.wanted o (yielded ops a.tmps) = true then Oper.wp Try.prog o a w K Q else E := by
  have hw : Region.wanted o (yielded ops a.tmps) = true := by simp [Region.wanted, hgd]
  rw [if_pos hw]
  exact wp_app_st s x ho B a1 n cap xs hs hown a2 m c ys hx hy hb hnil hsz hB h

def cell2 (n : Nat) : Obj := .cells #[.int .u8 ((n : Int) / 256 % 256), .int .u8 ((n : Int) % 256)] 5
theorem gTwo (n : Nat) (w : World) (hn : n ≤ 65535) :
    Calls Try.prog 45 #[.int .i64 n] w fun e w' => e = .returned (.slice (some ⟨w.heap.size, 0, none⟩) 2 2) ∧ w.alloc (cell2 n) = w' := by
  go_enter Try.func45, Try.ntmps45
  go_wp2
  go_ret
  refine ⟨rfl, ?_⟩
  unfold cell2
  rw [Int.emod_eq_of_lt (a := (n : Int) / 256) (by omega) (by omega)]
theorem bs_two (w : World) (n : Nat) : Bs (w.alloc (cell2 n)) (some ⟨w.heap.size, 0, none⟩) (two n) := (Ob.of_heap (xs := two n) (Go.Deep.blk_alloc_new _ _)).bs (isB_two n)
theorem bs_four (w : World) (a : Int) (h : 0 ≤ a ∧ a ≤ 4294967295) : Bs (w.alloc (bytes4 a)) (some ⟨w.heap.size, 0, none⟩) (l4 a) := (Ob.of_heap (xs := l4 a) (Go.Deep.blk_alloc_new _ _)).bs (isB_l4 h)
theorem aBytes4 (a : Int) (w : World) (h0 : 0 ≤ a) (h1 : a ≤ 4294967295) :
    Calls Try.prog 24 #[.int .u32 a] w fun e w' => e = .returned (.slice (some ⟨w.heap.size, 0, none⟩) 4 4) ∧ w.alloc (bytes4 a) = w' := aBytes a w h0 h1

set_option maxHeartbeats 1000000 in
theorem gAll (a : Option Addr) (c : Nat) (xs : List Int) (w : World) (hn : xs.length ≤ 100000) (ha : As w a xs) :
    Calls Try.prog 46 #[.slice a xs.length c] w fun e w' => ∃ a' cap', e = .returned (.slice a' (4 * xs.length) cap') ∧ Ow w' w.heap.size a' (4 * xs.length) cap' (ads xs) ∧ Below w.heap.size w w' := by
  obtain ⟨n, hx⟩ : ∃ n, n = xs.length := ⟨_, rfl⟩
  rw [← hx]
  rw [← hx] at hn
  have HX := Lib.hid hx
  have HA := Lib.hid ha
  clear hx ha
  go_enter Try.func46, Try.ntmps46
  go_wp2
  go_loopw [3, 8] (fun b i wr => ∃ (k : Nat) (a' : Option Addr) (cap' : Nat), k ≤ n ∧ i = .int .i64 k ∧ b = .slice a' (4 * k) cap' ∧ Ow wr w.heap.size a' (4 * k) cap' (ads (xs.take k)) ∧ Below w.heap.size w wr) (fun _ i _ => n - (intOf i).toNat)
  case atStart => exact ⟨0, none, 0, by omega, rfl, rfl, Ow.nil0 _ _, Below.refl _ _⟩
  case round =>
    obtain ⟨k, a1, cap1, hk, rfl, rfl, how, hbel⟩ := hrel
    have HO := Lib.hid how
    have HB := Lib.hid hbel
    clear how hbel
    by_cases hlt : k < n
    · have hA := HA.out.below HB.out
      have hbd := hA.2 k (by have := HX.out; omega)
      rcases hA.1 with e | ⟨b, off, rfl, hc⟩
      · have := HX.out; rw [e] at this; simp at this; omega
      have hck := hc k (by have := HX.out; omega)
      clear hA hc
      have e1 := ads_take_succ (l := xs) (k := k) (by have := HX.out; omega)
      have HE := Lib.hid e1
      clear e1
      obtain ⟨x, hxx⟩ : ∃ x, x = xs.getD k 0 := ⟨_, rfl⟩
      rw [← hxx] at hck hbd
      have HXX := Lib.hid hxx
      clear hxx
      have i1 : (0 : Int) ≤ (k : Int) := by omega
      have i2 : (k : Int) < (n : Int) := by omega
      obtain ⟨x0, x1⟩ := hbd
      go_wp2_with (first
        | (go_at_call 24; refine (aBytes4 x _ x0 x1).mono ?_; rintro e w1 ⟨rfl, rfl⟩)
        | ((with_reducible refine wpList_app_st rfl (.tmp 12) (.tmp 14) rfl w.heap.size a1 (4 * k) cap1 (ads (xs.take k)) rfl (HO.out.alloc _) (some ⟨wr.heap.size, 0, none⟩) 4 4 (l4 x) rfl rfl (bs_four _ _ ⟨x0, x1⟩) (fun e => by cases e) (by omega) ((HB.out.alloc HB.out.size _).size) ?_); intro a2 cap2 w2 how2 hb2 hst2))
      go_roundw
      case rel => exact ⟨k + 1, a2, cap2, by omega, by go_num, rfl, by rw [HE.out, ← HXX.out]; exact how2.out, (HB.out.alloc HB.out.size _).trans hb2.out⟩
      case measure => simp [intOf]; omega
    · obtain rfl : k = n := by omega
      go_wp2
      go_ret
      exact ⟨a1, cap1, rfl, by have := HO.out; rwa [List.take_of_length_le (by have := HX.out; omega)] at this, HB.out⟩
end Go.Proofs.Ytmcnanoamgkljaa
/- What a report of version 3 has behind its sum (igmp.report). -/
namespace Go.Proofs.Ytmcnanoamgkljaa
set_option linter.unusedVariables false
open Go.RowKit

theorem recAt_ok {w : World} {b o : Nat} {r : Rec} (h : RecAt w b o r) : RecOk r := by
  obtain ⟨a, c, _, _, _, h3, h4, h5, _⟩ := h
  exact ⟨h4, h5, h3.2⟩
theorem ow_zero2 (w : World) (B : Nat) (hB : B ≤ w.heap.size) : Ow (w.alloc (.cells #[.int .u8 0, .int .u8 0] 5)) B (some ⟨w.heap.size, 0, none⟩) 2 2 [0, 0] := ow_new w B 2 [0, 0] hB rfl (by omega)
theorem RecAt.up {w w' : World} {b o : Nat} {r : Rec} (h : RecAt w b o r) (hb : Below w.heap.size w w') :
    ∃ a c, w'.cell? ⟨b, o, none⟩ = some (.int .u8 r.typ) ∧ w'.cell? ⟨b, o + 1, none⟩ = some (.int .u32 r.grp) ∧ w'.cell? ⟨b, o + 2, none⟩ = some (.slice a r.srcs.length c) ∧ As w a r.srcs ∧
    (0 ≤ r.typ ∧ r.typ ≤ 255) ∧ (0 ≤ r.grp ∧ r.grp ≤ 4294967295) ∧ r.srcs.length ≤ 1125899906842624 := by
  obtain ⟨a, c, h0, h1, h2, h3, h4⟩ := h
  refine ⟨a, c, ?_, ?_, ?_, h3, h4⟩
  · rw [hb.cell (p := ⟨b, o, none⟩) (cell_lt h0)]; exact h0
  · rw [hb.cell (p := ⟨b, o + 1, none⟩) (cell_lt h1)]; exact h1
  · rw [hb.cell (p := ⟨b, o + 2, none⟩) (cell_lt h2)]; exact h2
theorem slice_eq {a : Option Addr} {n m c : Nat} (h : n = m) : Value.slice a n c = Value.slice a m c := by rw [h]
theorem ow_eq {w : World} {B n m cap : Nat} {a : Option Addr} {xs ys : List Int} (h : Ow w B a n cap xs) (hn : n = m) (hx : xs = ys) : Ow w B a m cap ys := by subst hn hx; exact h
theorem lt_of_get {w : World} {X : Nat} {o : Obj} (h : w.heap[X]? = some o) : X < w.heap.size := (Array.getElem?_eq_some_iff.1 h).1
/-- A box's cells, while its block stays. -/
theorem box3 {w : World} {X : Nat} {c0 c1 c2 : Value} {T : TypeId} (h : w.heap[X]? = some (.cells #[c0, c1, c2] T (0, 0))) : w.cell? ⟨X, 0, none⟩ = some c0 ∧ w.cell? ⟨X, 1, none⟩ = some c1 ∧ w.cell? ⟨X, 2, none⟩ = some c2 := by
  refine ⟨?_, ?_, ?_⟩ <;> simp [World.cell?, h]
theorem bs_tz (w : World) (t : Int) (h : 0 ≤ t ∧ t ≤ 255) : Bs (w.alloc (.cells #[.int .u8 t, .int .u8 0] 5)) (some ⟨w.heap.size, 0, none⟩) [t, 0] :=
  (Ob.of_heap (xs := [t, 0]) (Go.Deep.blk_alloc_new _ _)).bs (isB_cons.2 ⟨h, isB_cons.2 ⟨by omega, isB_nil⟩⟩)
/-- The world stays where it was, one more block. -/
theorem hp {w : World} {o : Obj} {q : Nat} (hq : q < w.heap.size) : (w.alloc o).heap[q]? = w.heap[q]? := Below.heap_alloc w o q hq

set_option maxHeartbeats 4000000 in
theorem gReport (a : Option Addr) (c : Nat) (l : List Rec) (w : World) (hl : okL l = true) (ha : Rs w a l) :
    Calls Try.prog 23 #[.slice a l.length c] w fun e w' => ∃ a' cap', e = .returned (.slice a' (4 + recsN l) cap') ∧ Ow w' w.heap.size a' (4 + recsN l) cap' (repB l) ∧ Below w.heap.size w w' := by
  unfold okL at hl
  rw [Bool.and_eq_true, decide_eq_true_eq] at hl
  obtain ⟨hl, hal⟩ := hl
  have hle := recsN_le hal
  obtain ⟨n, hx⟩ : ∃ n, n = l.length := ⟨_, rfl⟩
  have HAL := Lib.hid hal
  have HX := Lib.hid hx
  rw [← hx] at hl hle
  rw [← hx]
  have HA := Lib.hid ha
  clear hx ha hal
  have HO0 := Lib.hid (ow_zero2 w w.heap.size (Nat.le_refl _))
  go_enter Try.func23, Try.ntmps23
  go_wp2_with (first
    | (go_at_call 45; refine (gTwo n _ (by omega)).mono ?_; rintro e w1 ⟨rfl, rfl⟩)
    | ((with_reducible refine wpList_app_st rfl (.tmp 6) (.tmp 9) rfl w.heap.size (some ⟨w.heap.size, 0, none⟩) 2 2 [0, 0] rfl (HO0.out.alloc _) (some ⟨w.heap.size + 1, 0, none⟩) 2 2 (two n) rfl rfl (by have := bs_two (w.alloc (.cells #[.int .u8 0, .int .u8 0] 5)) n; rwa [show (w.alloc (.cells #[.int .u8 0, .int .u8 0] 5)).heap.size = w.heap.size + 1 by simp] at this) (fun e => by cases e) (by omega) (by simp; omega) ?_); intro a2 cap2 w2 how2 hb2 hst2; have HB2 : Hid (Below w.heap.size w w2) := Lib.hid ((bel2 w (.cells #[.int .u8 0, .int .u8 0] 5) (cell2 n)).trans hb2.out)))
  go_loopw [3, 13] (fun b i wr => ∃ (k : Nat) (a' : Option Addr) (cap' : Nat), k ≤ n ∧ i = .int .i64 k ∧ b = .slice a' (4 + recsN (l.take k)) cap' ∧ Ow wr w.heap.size a' (4 + recsN (l.take k)) cap' ([0, 0] ++ two n ++ recsB (l.take k)) ∧ Below w.heap.size w wr) (fun _ i _ => n - (intOf i).toNat)
  case atStart => exact ⟨0, a2, cap2, by omega, rfl, rfl, by have := how2.out; simpa [recsN, recsB] using this, HB2.out⟩
  case round =>
    obtain ⟨k, a3, cap3, hk, rfl, rfl, how, hbel⟩ := hrel
    have HO := Lib.hid how
    have HB := Lib.hid hbel
    clear how hbel
    by_cases hlt : k < n
    · obtain ⟨x, hxk⟩ : ∃ x, l[k]? = some x := ⟨_, List.getElem?_eq_getElem (by have := HX.out; omega)⟩
      have h264 : recsN (l.take k) ≤ 264 * 32 := Nat.le_trans (recsN_le (l := l.take k) (List.all_eq_true.2 fun r hr => List.all_eq_true.1 HAL.out r (List.mem_of_mem_take hr))) (by have := List.length_take_le k l; omega)
      have hok : okR x = true := List.all_eq_true.1 HAL.out x (List.mem_of_getElem? hxk)
      rcases HA.out with e | ⟨b1, o1, rfl, hc⟩
      · have := HX.out; rw [e] at this; simp at this; omega
      have hr := hc k x hxk
      have HR := Lib.hid (recAt_ok hr)
      obtain ⟨ax, cx, x0, x1, x2, hxa, x4, x5, hxl⟩ := hr.up HB.out
      clear hc hr
      have hs64 : x.srcs.length ≤ 64 := by
        simp only [okR, Bool.and_eq_true, decide_eq_true_eq] at hok
        exact hok.2
      have HE := Lib.hid (recsB_take_succ hxk)
      have HEN : Hid (recsN (l.take (k + 1)) = recsN (l.take k) + (8 + 4 * x.srcs.length)) := Lib.hid (by rw [← recsB_len, recsB_take_succ hxk, List.length_append, recsB_len, recB_len])
      have HXA := Lib.hid hxa
      clear hxk hok hxa
      have l1 := cell_lt x0
      simp only at l1
      have HIB : Hid (IsB (ads x.srcs)) := Lib.hid (isB_ads HR.out.2.2)
      obtain ⟨t, g, s⟩ := x
      simp only at x0 x1 x2 x4 x5 hxl hs64 HXA HIB
      obtain ⟨m, hm⟩ : ∃ m, m = recsN (l.take k) := ⟨_, rfl⟩
      rw [← hm] at h264 HO
      have HM := Lib.hid hm
      rw [← hm]
      clear hm
      have i1 : (0 : Int) ≤ (k : Int) := by omega
      have i2 : (k : Int) < (n : Int) := by omega
      obtain ⟨g0, g1⟩ := x5
      obtain ⟨W1, hW1⟩ : ∃ W1, wr.alloc (.cells #[.int .u8 t, .int .u32 g, .slice ax s.length cx] 44) = W1 := ⟨_, rfl⟩
      have sz1 : W1.heap.size = wr.heap.size + 1 := by rw [← hW1]; simp
      have BX1 : W1.heap[wr.heap.size]? = some (.cells #[.int .u8 t, .int .u32 g, .slice ax s.length cx] 44 (0, 0)) := by rw [← hW1]; exact Go.Deep.blk_alloc_new _ _
      have HBX1 := Lib.hid BX1
      have BW1 := Lib.hid (by rw [← hW1]; exact HB.out.alloc HB.out.size _ : Below w.heap.size w W1)
      have BR1 := Lib.hid (by rw [← hW1]; exact bel1 wr _ : Below wr.heap.size wr W1)
      have NE1 := Lib.hid (HO.out.ne (Nat.le_refl _))
      have HO1 : Hid (Ow W1 w.heap.size a3 (4 + m) cap3 ([0, 0] ++ two n ++ recsB (l.take k))) := Lib.hid (by rw [← hW1]; exact HO.out.alloc _)
      have SZ1 := Lib.hid sz1
      have HW1 := Lib.hid hW1
      obtain ⟨b0, b1', b2⟩ := box3 BX1
      clear sz1 hW1 BX1
      obtain ⟨P0, hP0⟩ : ∃ P, P = [0, 0] ++ two n ++ recsB (l.take k) := ⟨_, rfl⟩
      rw [← hP0] at HO1
      have HP0 := Lib.hid hP0
      clear hP0
      go_wp2_with (first
        | ((rw [HW1.out]; with_reducible refine wpList_app_st rfl (.tmp 17) (.tmp 20) rfl w.heap.size a3 (4 + m) cap3 P0 rfl (HO1.out.alloc _) (some ⟨wr.heap.size + 1, 0, none⟩) 2 2 [t, 0] rfl rfl (by rw [← SZ1.out]; exact bs_tz _ _ x4) (fun e => by cases e) (by omega) ((BW1.out.alloc BW1.out.size _).size) ?_); intro a5 cap5 w5 how5 hb5 hst5; have BW5 := Lib.hid ((BW1.out.alloc BW1.out.size _).trans hb5.out); have K5 := hst5.out wr.heap.size (by simp; have := SZ1.out; omega) NE1.out; have BX5 := Lib.hid (K5.1.trans ((hp (by have := SZ1.out; omega)).trans HBX1.out)); have NE5 := Lib.hid K5.2; obtain ⟨d0, d1, d2⟩ := box3 BX5.out; have SZ5 : Hid (wr.heap.size < w5.heap.size) := Lib.hid (lt_of_get BX5.out); clear K5)
        | (go_at_call 45; refine (gTwo s.length _ (by omega)).mono ?_; rintro e w6 ⟨rfl, rfl⟩)
        | ((with_reducible refine wpList_app_st rfl (.tmp 22) (.tmp 26) rfl w.heap.size a5 (4 + m + 2) cap5 (P0 ++ [t, 0]) rfl (how5.out.alloc _) (some ⟨w5.heap.size, 0, none⟩) 2 2 (two s.length) rfl rfl (bs_two _ _) (fun e => by cases e) (by omega) ((BW5.out.alloc BW5.out.size _).size) ?_); intro a6 cap6 w6 how6 hb6 hst6; have BW6 := Lib.hid ((BW5.out.alloc BW5.out.size _).trans hb6.out); have K6 := hst6.out wr.heap.size (by simp; have := SZ5.out; omega) NE5.out; have BX6 := Lib.hid (K6.1.trans ((hp SZ5.out).trans BX5.out)); have NE6 := Lib.hid K6.2; obtain ⟨f0, f1, f2⟩ := box3 BX6.out; have SZ6 : Hid (wr.heap.size < w6.heap.size) := Lib.hid (lt_of_get BX6.out); clear K6)
        | (go_at_call 24; refine (aBytes4 g _ g0 g1).mono ?_; rintro e w7 ⟨rfl, rfl⟩)
        | ((with_reducible refine wpList_app_st rfl (.tmp 28) (.tmp 31) rfl w.heap.size a6 (4 + m + 2 + 2) cap6 (P0 ++ [t, 0] ++ two s.length) rfl (how6.out.alloc _) (some ⟨w6.heap.size, 0, none⟩) 4 4 (l4 g) rfl rfl (bs_four _ _ ⟨g0, g1⟩) (fun e => by cases e) (by omega) ((BW6.out.alloc BW6.out.size _).size) ?_); intro a7 cap7 w7 how7 hb7 hst7; have BW7 := Lib.hid ((BW6.out.alloc BW6.out.size _).trans hb7.out); have K7 := hst7.out wr.heap.size (by simp; have := SZ6.out; omega) NE6.out; have BX7 := Lib.hid (K7.1.trans ((hp SZ6.out).trans BX6.out)); obtain ⟨k0, k1, k2⟩ := box3 BX7.out; clear K7)
        | (go_at_call 46; refine (gAll ax cx s _ (by omega) (HXA.out.below BW7.out)).mono ?_; rintro e w8 ⟨a9, cap9, rfl, how9, hb9⟩; have HO9 := Lib.hid how9; have HB9 := Lib.hid hb9; have BW9 := Lib.hid (BW7.out.trans (hb9.mono BW7.out.size)); have OW9 := Lib.hid (how7.out.below hb9 (Nat.le_refl _)); clear how9 hb9)
        | ((with_reducible refine wpList_app_st rfl (.tmp 33) (.tmp 36) rfl w.heap.size a7 (4 + m + 2 + 2 + 4) cap7 (P0 ++ [t, 0] ++ two s.length ++ l4 g) rfl OW9.out a9 (4 * s.length) cap9 (ads s) rfl HO9.out.len (HO9.out.bsB HIB.out) HO9.out.nil (by omega) BW9.out.size ?_); intro a8 cap8 w10 how8 hb8 hst8; have BW8 := Lib.hid (BW9.out.trans hb8.out)))
      go_roundw
      case rel => exact ⟨k + 1, a8, cap8, by omega, by go_num, by rw [HEN.out, ← HM.out]; exact slice_eq (by omega), by rw [HEN.out, ← HM.out, HE.out]; have := how8.out; rw [HP0.out] at this; exact ow_eq this (by omega) (by simp [recB]), BW8.out⟩
      case measure => simp [intOf]; omega
    · obtain rfl : k = n := by omega
      go_wp2
      go_ret
      have e1 : l.take k = l := List.take_of_length_le (by have := HX.out; omega)
      have h1 := HO.out
      have h2 := HB.out
      rw [e1] at h1 ⊢
      exact ⟨a3, cap3, rfl, by rw [HX.out] at h1; exact h1, h2⟩
end Go.Proofs.Ytmcnanoamgkljaa
/- What a query of version 3 has behind its group (igmp.beside). -/
namespace Go.Proofs.Ytmcnanoamgkljaa
set_option linter.unusedVariables false
open Go.RowKit

theorem ow_cell2 (w : World) (B : Nat) (x y : Int) (hB : B ≤ w.heap.size) : Ow (w.alloc (.cells #[.int .u8 x, .int .u8 y] 5)) B (some ⟨w.heap.size, 0, none⟩) 2 2 [x, y] := ow_new w B 2 [x, y] hB rfl (by omega)
/-- Two new blocks, in either order. -/
theorem two_ab {W : World} {B H : Nat} (x y : Int) (n : Nat) (h : W.heap.size = H) (hB : B ≤ H) : Ow ((W.alloc (.cells #[.int .u8 x, .int .u8 y] 5)).alloc (cell2 n)) B (some ⟨H, 0, none⟩) 2 2 [x, y] ∧ Bs ((W.alloc (.cells #[.int .u8 x, .int .u8 y] 5)).alloc (cell2 n)) (some ⟨H + 1, 0, none⟩) (two n) := by
  subst h
  refine ⟨(ow_cell2 W B x y hB).alloc _, ?_⟩
  have := bs_two (W.alloc (.cells #[.int .u8 x, .int .u8 y] 5)) n
  rwa [show (W.alloc (.cells #[.int .u8 x, .int .u8 y] 5)).heap.size = W.heap.size + 1 by simp] at this
theorem two_ba {W : World} {B H : Nat} (x y : Int) (n : Nat) (h : W.heap.size = H) (hB : B ≤ H) : Ow ((W.alloc (cell2 n)).alloc (.cells #[.int .u8 x, .int .u8 y] 5)) B (some ⟨H + 1, 0, none⟩) 2 2 [x, y] ∧ Bs ((W.alloc (cell2 n)).alloc (.cells #[.int .u8 x, .int .u8 y] 5)) (some ⟨H, 0, none⟩) (two n) := by
  subst h
  refine ⟨?_, bs_below (bs_two W n) (bel1 _ _)⟩
  have := ow_cell2 (W.alloc (cell2 n)) B x y (by simp; omega)
  rwa [show (W.alloc (cell2 n)).heap.size = W.heap.size + 1 by simp] at this
theorem bel2d {w W : World} (h : Below w.heap.size w W) (o o' : Obj) : Below w.heap.size w ((W.alloc o).alloc o') := (h.alloc h.size o).alloc (h.alloc h.size o).size o'
theorem hp2 {w : World} {o o' : Obj} {q : Nat} (hq : q < w.heap.size) : ((w.alloc o).alloc o').heap[q]? = w.heap[q]? := (hp (by simp; omega)).trans (hp hq)
theorem cell7 {w : World} {X : Nat} {c0 c1 c2 c3 c4 c5 c6 c7 c8 : Value} {T : TypeId} (h : w.heap[X]? = some (.cells #[c0, c1, c2, c3, c4, c5, c6, c7, c8] T (0, 0))) : w.cell? ⟨X, 7, none⟩ = some c7 := by simp [World.cell?, h]
theorem cell6 {w : World} {X : Nat} {c0 c1 c2 c3 c4 c5 c6 c7 c8 : Value} {T : TypeId} (h : w.heap[X]? = some (.cells #[c0, c1, c2, c3, c4, c5, c6, c7, c8] T (0, 0))) : w.cell? ⟨X, 6, none⟩ = some c6 := by simp [World.cell?, h]

set_option maxHeartbeats 4000000 in
theorem gBeside0 (k v c g r e : Int) (s : List Int) (l : List Rec) (sa ra : Option Addr) (sc rc : Nat) (w : World) (hs : As w sa s) (hn : s.length ≤ 64) (hr : 0 ≤ r ∧ r < 8) (he : 0 ≤ e ∧ e ≤ 255) :
    Calls Try.prog 25 #[.agg #[.int .u8 k, .int .i64 v, .int .u8 c, .int .u32 g, .bool false, .int .u8 r, .int .u8 e, .slice sa s.length sc, .slice ra l.length rc]] w
      fun x w' => ∃ a' cap', x = .returned (.slice a' (4 + 4 * s.length) cap') ∧ Ow w' w.heap.size a' (4 + 4 * s.length) cap' (besB ⟨k, v, c, g, false, r, e, s, l⟩) ∧ Below w.heap.size w w' := by
  obtain ⟨r0, r1⟩ := hr
  obtain ⟨W1, hW1⟩ : ∃ W1, w.alloc (.cells #[.int .u8 k, .int .i64 v, .int .u8 c, .int .u32 g, .bool false, .int .u8 r, .int .u8 e, .slice sa s.length sc, .slice ra l.length rc] 27) = W1 := ⟨_, rfl⟩
  have HW1 := Lib.hid hW1
  have sz1 : W1.heap.size = w.heap.size + 1 := by rw [← hW1]; simp
  have SZ1 := Lib.hid sz1
  have BW1 := Lib.hid (by rw [← hW1]; exact bel1 w _ : Below w.heap.size w W1)
  have LE : Hid (w.heap.size ≤ W1.heap.size) := Lib.hid (by omega)
  have bx1 : W1.heap[w.heap.size]? = some (.cells #[.int .u8 k, .int .i64 v, .int .u8 c, .int .u32 g, .bool false, .int .u8 r, .int .u8 e, .slice sa s.length sc, .slice ra l.length rc] 27 (0, 0)) := by rw [← hW1]; exact Go.Deep.blk_alloc_new _ _
  have BX1 := Lib.hid bx1
  have d6 := cell6 bx1
  have d7 := cell7 bx1
  have HS := Lib.hid hs
  have HE := Lib.hid he
  have HIB := Lib.hid (isB_ads hs.2)
  clear hs he sz1 hW1 bx1
  go_enter Try.func25, Try.ntmps25
  go_wp2
  rw [HW1.out]
  go_region_held3 (fun w' => w'.cell? ⟨w.heap.size, 6, none⟩ = some (.int .u8 e) ∧ w'.cell? ⟨w.heap.size, 7, none⟩ = some (.slice sa s.length sc)) (first | go_keep | exact ⟨cell6 BX2.out, cell7 BX2.out⟩ | (go_split_ands; exact ⟨cell6 BX2.out, cell7 BX2.out⟩))
    (first
      | (go_at_call 45; refine (gTwo s.length _ (by omega)).mono ?_; rintro e1 w1 ⟨rfl, rfl⟩)
      | ((refine step_app_st rfl (.tmp 14) (.tmp 18) (by rfl) w.heap.size (some ⟨W1.heap.size, 0, none⟩) 2 2 [r, e] (by rfl) (two_ab r e s.length rfl LE.out).1 (some ⟨W1.heap.size + 1, 0, none⟩) 2 2 (two s.length) (by rfl) rfl (two_ab (B := w.heap.size) r e s.length rfl LE.out).2 (fun e => by cases e) (by omega) (by simp; have := LE.out; omega) ?_); intro a2 cap2 w2 how2 hb2 hst2; have K2 := hst2.out w.heap.size (by simp; have := SZ1.out; omega) (by intro h; simp at h; have := SZ1.out; omega); have BX2 := Lib.hid (K2.1.trans ((hp2 (by have := SZ1.out; simp; omega)).trans BX1.out)); clear K2)
      | ((refine step_app_st rfl (.tmp 14) (.tmp 18) (by rfl) w.heap.size (some ⟨W1.heap.size + 1, 0, none⟩) 2 2 [r, e] (by rfl) (two_ba r e s.length rfl LE.out).1 (some ⟨W1.heap.size, 0, none⟩) 2 2 (two s.length) (by rfl) rfl (two_ba (B := w.heap.size) r e s.length rfl LE.out).2 (fun e => by cases e) (by omega) (by simp; have := LE.out; omega) ?_); intro a2 cap2 w2 how2 hb2 hst2; have K2 := hst2.out w.heap.size (by simp; have := SZ1.out; omega) (by intro h; simp at h; have := SZ1.out; omega); have BX2 := Lib.hid (K2.1.trans ((hp2 (by have := SZ1.out; simp; omega)).trans BX1.out)); clear K2)
      | fail)
  all_goals
    have BW2 : Hid (Below w.heap.size w w2) := Lib.hid ((bel2d BW1.out _ _).drew.trans hb2.out)
    have d7 := cell7 BX2.out
    go_wp2_with (first
      | (go_at_call 46; refine (gAll sa sc s _ (by omega) (HS.out.below BW2.out)).mono ?_; rintro e3 w3 ⟨a3, cap3, rfl, how3, hb3⟩; have HO3 := Lib.hid how3; have BW3 := Lib.hid (BW2.out.trans (hb3.mono BW2.out.size)); have HO2 := Lib.hid (how2.out.below hb3 (Nat.le_refl _)); clear how3 hb3)
      | ((with_reducible refine wpList_app_st rfl (.tmp 20) (.tmp 23) rfl w.heap.size a2 4 cap2 ([r, e] ++ two s.length) rfl HO2.out a3 (4 * s.length) cap3 (ads s) rfl HO3.out.len (HO3.out.bsB HIB.out) HO3.out.nil (by omega) BW3.out.size ?_); intro a4 cap4 w4 how4 hb4 hst4))
    go_ret
    exact ⟨a4, cap4, rfl, ow_eq how4.out rfl (by simp [besB]), BW3.out.trans hb4.out⟩

set_option maxHeartbeats 4000000 in
theorem gBeside1 (k v c g r e : Int) (s : List Int) (l : List Rec) (sa ra : Option Addr) (sc rc : Nat) (w : World) (hs : As w sa s) (hn : s.length ≤ 64) (hr : 0 ≤ r ∧ r < 8) (he : 0 ≤ e ∧ e ≤ 255) :
    Calls Try.prog 25 #[.agg #[.int .u8 k, .int .i64 v, .int .u8 c, .int .u32 g, .bool true, .int .u8 r, .int .u8 e, .slice sa s.length sc, .slice ra l.length rc]] w
      fun x w' => ∃ a' cap', x = .returned (.slice a' (4 + 4 * s.length) cap') ∧ Ow w' w.heap.size a' (4 + 4 * s.length) cap' (besB ⟨k, v, c, g, true, r, e, s, l⟩) ∧ Below w.heap.size w w' := by
  obtain ⟨r0, r1⟩ := hr
  obtain ⟨W1, hW1⟩ : ∃ W1, w.alloc (.cells #[.int .u8 k, .int .i64 v, .int .u8 c, .int .u32 g, .bool true, .int .u8 r, .int .u8 e, .slice sa s.length sc, .slice ra l.length rc] 27) = W1 := ⟨_, rfl⟩
  have HW1 := Lib.hid hW1
  have sz1 : W1.heap.size = w.heap.size + 1 := by rw [← hW1]; simp
  have SZ1 := Lib.hid sz1
  have BW1 := Lib.hid (by rw [← hW1]; exact bel1 w _ : Below w.heap.size w W1)
  have LE : Hid (w.heap.size ≤ W1.heap.size) := Lib.hid (by omega)
  have bx1 : W1.heap[w.heap.size]? = some (.cells #[.int .u8 k, .int .i64 v, .int .u8 c, .int .u32 g, .bool true, .int .u8 r, .int .u8 e, .slice sa s.length sc, .slice ra l.length rc] 27 (0, 0)) := by rw [← hW1]; exact Go.Deep.blk_alloc_new _ _
  have BX1 := Lib.hid bx1
  have d6 := cell6 bx1
  have d7 := cell7 bx1
  have HS := Lib.hid hs
  have HE := Lib.hid he
  have HIB := Lib.hid (isB_ads hs.2)
  clear hs he sz1 hW1 bx1
  go_enter Try.func25, Try.ntmps25
  go_wp2
  rw [HW1.out]
  go_region_held3 (fun w' => w'.cell? ⟨w.heap.size, 6, none⟩ = some (.int .u8 e) ∧ w'.cell? ⟨w.heap.size, 7, none⟩ = some (.slice sa s.length sc)) (first | go_keep | exact ⟨cell6 BX2.out, cell7 BX2.out⟩ | (go_split_ands; exact ⟨cell6 BX2.out, cell7 BX2.out⟩))
    (first
      | (go_at_call 45; refine (gTwo s.length _ (by omega)).mono ?_; rintro e1 w1 ⟨rfl, rfl⟩)
      | ((refine step_app_st rfl (.tmp 14) (.tmp 18) (by rfl) w.heap.size (some ⟨W1.heap.size, 0, none⟩) 2 2 [(r + 8), e] (by rfl) (two_ab (r + 8) e s.length rfl LE.out).1 (some ⟨W1.heap.size + 1, 0, none⟩) 2 2 (two s.length) (by rfl) rfl (two_ab (B := w.heap.size) (r + 8) e s.length rfl LE.out).2 (fun e => by cases e) (by omega) (by simp; have := LE.out; omega) ?_); intro a2 cap2 w2 how2 hb2 hst2; have K2 := hst2.out w.heap.size (by simp; have := SZ1.out; omega) (by intro h; simp at h; have := SZ1.out; omega); have BX2 := Lib.hid (K2.1.trans ((hp2 (by have := SZ1.out; simp; omega)).trans BX1.out)); clear K2)
      | ((refine step_app_st rfl (.tmp 14) (.tmp 18) (by rfl) w.heap.size (some ⟨W1.heap.size + 1, 0, none⟩) 2 2 [(r + 8), e] (by rfl) (two_ba (r + 8) e s.length rfl LE.out).1 (some ⟨W1.heap.size, 0, none⟩) 2 2 (two s.length) (by rfl) rfl (two_ba (B := w.heap.size) (r + 8) e s.length rfl LE.out).2 (fun e => by cases e) (by omega) (by simp; have := LE.out; omega) ?_); intro a2 cap2 w2 how2 hb2 hst2; have K2 := hst2.out w.heap.size (by simp; have := SZ1.out; omega) (by intro h; simp at h; have := SZ1.out; omega); have BX2 := Lib.hid (K2.1.trans ((hp2 (by have := SZ1.out; simp; omega)).trans BX1.out)); clear K2)
      | fail)
  all_goals
    have BW2 : Hid (Below w.heap.size w w2) := Lib.hid ((bel2d BW1.out _ _).drew.trans hb2.out)
    have d7 := cell7 BX2.out
    go_wp2_with (first
      | (go_at_call 46; refine (gAll sa sc s _ (by omega) (HS.out.below BW2.out)).mono ?_; rintro e3 w3 ⟨a3, cap3, rfl, how3, hb3⟩; have HO3 := Lib.hid how3; have BW3 := Lib.hid (BW2.out.trans (hb3.mono BW2.out.size)); have HO2 := Lib.hid (how2.out.below hb3 (Nat.le_refl _)); clear how3 hb3)
      | ((with_reducible refine wpList_app_st rfl (.tmp 20) (.tmp 23) rfl w.heap.size a2 4 cap2 ([(r + 8), e] ++ two s.length) rfl HO2.out a3 (4 * s.length) cap3 (ads s) rfl HO3.out.len (HO3.out.bsB HIB.out) HO3.out.nil (by omega) BW3.out.size ?_); intro a4 cap4 w4 how4 hb4 hst4))
    go_ret
    exact ⟨a4, cap4, rfl, ow_eq how4.out rfl (by simp [besB]), BW3.out.trans hb4.out⟩

theorem gBeside (m : Msg) (sa ra : Option Addr) (sc rc : Nat) (w : World) (hs : As w sa m.srcs) (hn : m.srcs.length ≤ 64) (hr : 0 ≤ m.rob ∧ m.rob < 8) (he : 0 ≤ m.every ∧ m.every ≤ 255) :
    Calls Try.prog 25 #[.agg #[.int .u8 m.kind, .int .i64 m.ver, .int .u8 m.code, .int .u32 m.grp, .bool m.quiet, .int .u8 m.rob, .int .u8 m.every, .slice sa m.srcs.length sc, .slice ra m.recs.length rc]] w
      fun x w' => ∃ a' cap', x = .returned (.slice a' (4 + 4 * m.srcs.length) cap') ∧ Ow w' w.heap.size a' (4 + 4 * m.srcs.length) cap' (besB m) ∧ Below w.heap.size w w' := by
  obtain ⟨k, v, c, g, z, r, e, s, l⟩ := m
  cases z
  · exact gBeside0 k v c g r e s l sa ra sc rc w hs hn hr he
  · exact gBeside1 k v c g r e s l sa ra sc rc w hs hn hr he
end Go.Proofs.Ytmcnanoamgkljaa
/- A message's bytes (igmp.Encode). -/
namespace Go.Proofs.Ytmcnanoamgkljaa
set_option linter.unusedVariables false
open Go.RowKit

theorem right_34 {m : Msg} (h : right m = true) (hk : m.kind = 34) : m.ver = 0 ∧ okL m.recs = true := by
  unfold right at h
  rw [if_pos hk] at h
  simp only [Bool.and_eq_true, beq_iff_eq] at h
  exact ⟨h.1.1.1.2, h.2⟩
theorem right_q3 {m : Msg} (h : right m = true) (hv : m.ver = 3) : m.kind ≠ 34 ∧ m.rob < 8 ∧ m.srcs.length ≤ 64 := by
  by_cases hk : m.kind = 34
  · have := (right_34 h hk).1; omega
  refine ⟨hk, ?_⟩
  unfold right at h
  rw [if_neg hk] at h
  split at h
  · cases h
  · split at h
    · simp only [Bool.and_eq_true, beq_iff_eq] at h
      have := h.1.1.2; omega
    · split at h
      · simp [hv] at h
        exact h.1
      · cases h
theorem right_len {m : Msg} (h : right m = true) : 8 ≤ (enc0 m).length ∧ (enc0 m).length ≤ 9000 := by
  rw [enc0_len]
  by_cases hk : m.kind = 34
  · have h1 := right_34 h hk
    have h2 := h1.2
    unfold okL at h2
    rw [Bool.and_eq_true, decide_eq_true_eq] at h2
    have := recsN_le h2.2
    rw [if_pos hk, if_neg (by omega)]
    omega
  · rw [if_neg hk]
    split
    · next hv => have := right_q3 h hv; omega
    · omega
theorem isB_enc_m {m : Msg} (hf : m.fit) (h : right m = true) : IsB (enc0 m) := isB_enc0 hf fun hv => (right_q3 h hv).2.1
theorem boxW {w W1 w1 : World} {c0 c1 c2 c3 c4 c5 c6 c7 c8 : Value} {T : TypeId} (e : w.alloc (.cells #[c0, c1, c2, c3, c4, c5, c6, c7, c8] T) = W1) (hb : Below W1.heap.size W1 w1) :
    w1.cell? ⟨w.heap.size, 0, none⟩ = some c0 ∧ w1.cell? ⟨w.heap.size, 1, none⟩ = some c1 ∧ w1.cell? ⟨w.heap.size, 2, none⟩ = some c2 ∧ w1.cell? ⟨w.heap.size, 3, none⟩ = some c3 ∧ w1.cell? ⟨w.heap.size, 4, none⟩ = some c4 ∧
      w1.cell? ⟨w.heap.size, 5, none⟩ = some c5 ∧ w1.cell? ⟨w.heap.size, 6, none⟩ = some c6 ∧ w1.cell? ⟨w.heap.size, 7, none⟩ = some c7 ∧ w1.cell? ⟨w.heap.size, 8, none⟩ = some c8 := by subst e; exact boxM hb
theorem box_lt {w W1 w1 : World} {o : Obj} (e : w.alloc o = W1) (hb : Below W1.heap.size W1 w1) : w.heap.size < w1.heap.size := by
  subst e; have := hb.size; simp at this; omega
theorem ow_four (w : World) (B : Nat) (x y : Int) (hB : B ≤ w.heap.size) : Ow (w.alloc (.cells #[.int .u8 x, .int .u8 y, .int .u8 0, .int .u8 0] 5)) B (some ⟨w.heap.size, 0, none⟩) 4 4 [x, y, 0, 0] := ow_new w B 4 [x, y, 0, 0] hB rfl (by omega)
/-- Put where there is a place. -/
theorem sPutK2 (a : Option Addr) (n cap : Nat) (xs : List Int) (w : World) (hn : n ≤ 1000000) (hx : xs.length = n) (hb : Bs w a xs) (hk : 4 ≤ n) :
    Calls Try.prog 26 #[.slice a n cap, .int .i64 2] w fun e w' => ∃ g, e = .returned (.tuple #[.slice (some ⟨g, 0, none⟩) n n, .int .i64 0]) ∧ Ob w' g (putS xs 2) ∧ w.heap.size ≤ g ∧ Below w.heap.size w w' :=
  sPut_ok a n cap 2 xs w hn hx hb rfl (by omega)
theorem repB_B {l : List Rec} (h : ∀ r ∈ l, RecOk r) : IsB (repB l) := isB_append (isB_append (isB_cons.2 ⟨by omega, isB_cons.2 ⟨by omega, isB_nil⟩⟩) (isB_two _)) (isB_recsB h)

theorem gEncode_no (x : Msg) (sa ra : Option Addr) (sc rc : Nat) (w : World) (h1 : Ms w x sa ra) (hr : right x = false) :
    Calls Try.prog 13 #[.agg #[.int .u8 x.kind, .int .i64 x.ver, .int .u8 x.code, .int .u32 x.grp, .bool x.quiet, .int .u8 x.rob, .int .u8 x.every, .slice sa x.srcs.length sc, .slice ra x.recs.length rc]] w fun e w' => e = .returned (.tuple #[.slice none 0 0, .int .i64 1]) ∧ Below w.heap.size w w' := by
  have HM := Lib.hid h1
  clear h1
  have HR := Lib.hid hr
  clear hr
  obtain ⟨k, v, c, g, q, r, e, s, l⟩ := x
  simp only
  go_enter Try.func13, Try.ntmps13
  go_wp2_with (go_at_call 15; refine (gRight ⟨k, v, c, g, q, r, e, s, l⟩ sa ra sc rc _ (HM.out.below (bel1 _ _))).mono ?_; rintro e1 w1 ⟨rfl, hb⟩; rw [HR.out]; have HB := Lib.hid (bel_up (bel1 _ _) hb); clear hb)
  go_ret2
  exact ⟨rfl, HB.out⟩
theorem Ms.below2 {w w' : World} {m : Msg} {sa ra : Option Addr} (h : Ms w m sa ra) (hb : Below w.heap.size w w') : Rs w' ra m.recs := h.2.1.below hb

set_option maxHeartbeats 4000000 in
theorem gEncode_34 (c g r e : Int) (q : Bool) (s : List Int) (l : List Rec) (sa ra : Option Addr) (sc rc : Nat) (w : World) (h1 : Ms w ⟨34, 0, c, g, q, r, e, s, l⟩ sa ra) (hf : (⟨34, 0, c, g, q, r, e, s, l⟩ : Msg).fit) (hr : right ⟨34, 0, c, g, q, r, e, s, l⟩ = true) :
    Calls Try.prog 13 #[.agg #[.int .u8 34, .int .i64 0, .int .u8 c, .int .u32 g, .bool q, .int .u8 r, .int .u8 e, .slice sa s.length sc, .slice ra l.length rc]] w fun x w' => ∃ gg, x = .returned (.tuple #[.slice (some ⟨gg, 0, none⟩) (enc0 ⟨34, 0, c, g, q, r, e, s, l⟩).length (enc0 ⟨34, 0, c, g, q, r, e, s, l⟩).length, .int .i64 0]) ∧ Ob w' gg (encM ⟨34, 0, c, g, q, r, e, s, l⟩) ∧ w.heap.size ≤ gg ∧ Below w.heap.size w w' := by
  have HM := Lib.hid h1
  have HR := Lib.hid hr
  have HI := Lib.hid (isB_enc_m hf hr)
  have hln := right_len hr
  obtain ⟨N, hN⟩ : ∃ N, N = (enc0 ⟨34, 0, c, g, q, r, e, s, l⟩).length := ⟨_, rfl⟩
  rw [← hN] at hln ⊢
  obtain ⟨hln1, hln2⟩ := hln
  have HN := Lib.hid hN
  have HF := Lib.hid hf
  obtain ⟨_, _, hc, hg, hrb, he, _, _⟩ := hf.1
  simp only at hc hg hrb he
  obtain ⟨g0, g1⟩ := hg
  have OKL := Lib.hid (right_34 hr rfl).2
  have HRB := Lib.hid (repB_B HF.out.2.2)
  have HNA : Hid (N = 4 + (4 + recsN l)) := Lib.hid (by rw [hN, enc0_len, if_pos rfl, if_neg (by simp)]; show 8 + recsN l + 0 = _; omega)
  obtain ⟨W1, hW1⟩ : ∃ W1, w.alloc (.cells #[.int .u8 34, .int .i64 0, .int .u8 c, .int .u32 g, .bool q, .int .u8 r, .int .u8 e, .slice sa s.length sc, .slice ra l.length rc] 27) = W1 := ⟨_, rfl⟩
  have HW1 := Lib.hid hW1
  have BW1 := Lib.hid (by rw [← hW1]; exact bel1 w _ : Below w.heap.size w W1)
  clear h1 hf hr hN hW1 hc hrb he
  go_enter Try.func13, Try.ntmps13
  go_wp2_with (first
    | (go_at_call 15; refine (gRight ⟨34, 0, c, g, q, r, e, s, l⟩ sa ra sc rc _ (HM.out.below (bel1 _ _))).mono ?_; rintro e1 w2 ⟨rfl, hb⟩; rw [HR.out]; rw [HW1.out] at hb; have HB2 := Lib.hid hb; obtain ⟨b0, b1, b2, b3, b4, b5, b6, b7, b8⟩ := boxW HW1.out hb; have lw2 := box_lt HW1.out hb; have HO2 : Hid (∀ x y : Int, Ow (w2.alloc (.cells #[.int .u8 x, .int .u8 y, .int .u8 0, .int .u8 0] 5)) W1.heap.size (some ⟨w2.heap.size, 0, none⟩) 4 4 [x, y, 0, 0]) := Lib.hid (fun x y => ow_four w2 W1.heap.size x y hb.size); clear hb)
    | (go_at_call 23; refine (gReport ra rc l _ OKL.out ((HM.out.below BW1.out).below2 ((HB2.out.alloc HB2.out.size _)))).mono ?_; rintro e1 w3 ⟨a3, cap3, rfl, how3, hb3⟩; have HO3 := Lib.hid how3; have HB3 := Lib.hid ((HB2.out.alloc HB2.out.size _).trans (hb3.mono (HB2.out.alloc HB2.out.size _).size)); have HO2' := Lib.hid ((HO2.out 34 c).below hb3 (Nat.le_refl _)); clear how3 hb3)
    | ((with_reducible refine wpList_app_st rfl (.tmp 16) (.tmp 19) rfl W1.heap.size (some ⟨w2.heap.size, 0, none⟩) 4 4 [34, c, 0, 0] rfl HO2'.out a3 (4 + recsN l) cap3 (repB l) rfl HO3.out.len (HO3.out.bsB HRB.out) HO3.out.nil (by have := HNA.out; omega) HB3.out.size ?_); intro a4 cap4 w4 how4 hb4 hst4; have HB4 := Lib.hid (HB3.out.trans hb4.out); obtain ⟨p0, p1, p2, p3, p4, p5, p6, p7, p8⟩ := boxW HW1.out HB4.out)
    | (go_at_call 26; refine (sPutK2 _ _ _ (enc0 ⟨34, 0, c, g, q, r, e, s, l⟩) _ (by have := HNA.out; omega) (by have h1 := HN.out; have h2 := HNA.out; omega) (by rw [show enc0 ⟨34, 0, c, g, q, r, e, s, l⟩ = [34, c, 0, 0] ++ repB l by simp [enc0]]; exact how4.out.bs (by rw [← show enc0 ⟨34, 0, c, g, q, r, e, s, l⟩ = [34, c, 0, 0] ++ repB l by simp [enc0]]; exact HI.out)) (by omega)).mono ?_; rintro e1 w9 ⟨gg, rfl, hob, hge, hb⟩; have HB9 := Lib.hid (HB4.out.trans (hb.mono HB4.out.size)); have HOB := Lib.hid hob; have HGE := Lib.hid hge; clear hob hge hb))
  go_ret2
  exact ⟨gg, by rw [HNA.out]; rfl, HOB.out, by have h1 := HGE.out; have h2 := BW1.out.size; have h3 := HB4.out.size; omega, BW1.out.trans (HB9.out.mono BW1.out.size)⟩
theorem isB_besB {m : Msg} (hr : 0 ≤ m.rob ∧ m.rob ≤ 255) (h8 : m.rob < 8) (he : 0 ≤ m.every ∧ m.every ≤ 255) (hs : IsA m.srcs) : IsB (besB m) := by
  refine isB_append (isB_append (isB_cons.2 ⟨?_, isB_cons.2 ⟨he, isB_nil⟩⟩) (isB_two _)) (isB_ads hs)
  split <;> omega
theorem bs_four2 (w : World) (o : Obj) (a : Int) (h : 0 ≤ a ∧ a ≤ 4294967295) : Bs ((w.alloc o).alloc (bytes4 a)) (some ⟨w.heap.size + 1, 0, none⟩) (l4 a) := by
  have := bs_four (w.alloc o) a h
  rwa [show (w.alloc o).heap.size = w.heap.size + 1 by simp] at this

set_option maxHeartbeats 4000000 in
theorem gEncode_3 (k c g r e : Int) (q : Bool) (s : List Int) (l : List Rec) (sa ra : Option Addr) (sc rc : Nat) (w : World) (h1 : Ms w ⟨k, 3, c, g, q, r, e, s, l⟩ sa ra) (hf : (⟨k, 3, c, g, q, r, e, s, l⟩ : Msg).fit) (hr : right ⟨k, 3, c, g, q, r, e, s, l⟩ = true) :
    Calls Try.prog 13 #[.agg #[.int .u8 k, .int .i64 3, .int .u8 c, .int .u32 g, .bool q, .int .u8 r, .int .u8 e, .slice sa s.length sc, .slice ra l.length rc]] w fun x w' => ∃ gg, x = .returned (.tuple #[.slice (some ⟨gg, 0, none⟩) (enc0 ⟨k, 3, c, g, q, r, e, s, l⟩).length (enc0 ⟨k, 3, c, g, q, r, e, s, l⟩).length, .int .i64 0]) ∧ Ob w' gg (encM ⟨k, 3, c, g, q, r, e, s, l⟩) ∧ w.heap.size ≤ gg ∧ Below w.heap.size w w' := by
  have HM := Lib.hid h1
  have HR := Lib.hid hr
  have HI := Lib.hid (isB_enc_m hf hr)
  have hln := right_len hr
  obtain ⟨N, hN⟩ : ∃ N, N = (enc0 ⟨k, 3, c, g, q, r, e, s, l⟩).length := ⟨_, rfl⟩
  rw [← hN] at hln ⊢
  obtain ⟨hln1, hln2⟩ := hln
  have HN := Lib.hid hN
  have HF := Lib.hid hf
  obtain ⟨_, _, hc, hg, hrb, he, _, _⟩ := hf.1
  simp only at hc hg hrb he
  obtain ⟨g0, g1⟩ := hg
  have HRB := Lib.hid hrb
  have HEV := Lib.hid he
  have Q3 := Lib.hid (right_q3 hr rfl).2
  have HSA := Lib.hid h1.1
  have hk0 : (k == 34) = false := by simp; exact (right_q3 hr rfl).1
  have K34 := Lib.hid (right_q3 hr rfl).1
  have HBB : Hid (IsB (besB ⟨k, 3, c, g, q, r, e, s, l⟩)) := Lib.hid (isB_besB HRB.out Q3.out.1 HEV.out HF.out.2.1)
  have HNA : Hid (N = 4 + 4 + (4 + 4 * s.length)) := Lib.hid (by rw [hN, enc0_len, if_neg K34.out, if_pos rfl])
  have EE : Hid (enc0 ⟨k, 3, c, g, q, r, e, s, l⟩ = [k, c, 0, 0] ++ l4 g ++ besB ⟨k, 3, c, g, q, r, e, s, l⟩) := Lib.hid (by have := K34.out; simp only at this; simp [enc0, this])
  obtain ⟨W1, hW1⟩ : ∃ W1, w.alloc (.cells #[.int .u8 k, .int .i64 3, .int .u8 c, .int .u32 g, .bool q, .int .u8 r, .int .u8 e, .slice sa s.length sc, .slice ra l.length rc] 27) = W1 := ⟨_, rfl⟩
  have HW1 := Lib.hid hW1
  have BW1 := Lib.hid (by rw [← hW1]; exact bel1 w _ : Below w.heap.size w W1)
  clear h1 hf hr hN hW1 hc hrb he
  go_enter Try.func13, Try.ntmps13
  go_wp2_with (first
    | (go_at_call 15; refine (gRight ⟨k, 3, c, g, q, r, e, s, l⟩ sa ra sc rc _ (HM.out.below (bel1 _ _))).mono ?_; rintro e1 w2 ⟨rfl, hb⟩; rw [HR.out]; rw [HW1.out] at hb; have HB2 := Lib.hid hb; obtain ⟨b0, b1, b2, b3, b4, b5, b6, b7, b8⟩ := boxW HW1.out hb; have lw2 := box_lt HW1.out hb; have HO2 : Hid (∀ x y : Int, Ow (w2.alloc (.cells #[.int .u8 x, .int .u8 y, .int .u8 0, .int .u8 0] 5)) W1.heap.size (some ⟨w2.heap.size, 0, none⟩) 4 4 [x, y, 0, 0]) := Lib.hid (fun x y => ow_four w2 W1.heap.size x y hb.size); clear hb)
    | (go_at_call 24; refine (aBytes4 g _ g0 g1).mono ?_; rintro e1 w3 ⟨rfl, rfl⟩)
    | ((with_reducible refine wpList_app_st rfl (.tmp 21) (.tmp 24) rfl W1.heap.size (some ⟨w2.heap.size, 0, none⟩) 4 4 [k, c, 0, 0] rfl ((HO2.out k c).alloc _) (some ⟨w2.heap.size + 1, 0, none⟩) 4 4 (l4 g) rfl rfl (bs_four2 _ _ g ⟨g0, g1⟩) (fun e => by cases e) (by omega) ((HB2.out.alloc HB2.out.size _).alloc (HB2.out.alloc HB2.out.size _).size _).size ?_); intro a4 cap4 w4 how4 hb4 hst4; have HB4 := Lib.hid (((HB2.out.alloc HB2.out.size _).alloc (HB2.out.alloc HB2.out.size _).size _).trans hb4.out); obtain ⟨p0, p1, p2, p3, p4, p5, p6, p7, p8⟩ := boxW HW1.out HB4.out)
    | (go_at_call 25; refine (gBeside ⟨k, 3, c, g, q, r, e, s, l⟩ sa ra sc rc _ (HSA.out.below (BW1.out.trans (HB4.out.mono BW1.out.size))) Q3.out.2 ⟨HRB.out.1, Q3.out.1⟩ HEV.out).mono ?_; rintro e1 w5 ⟨a5, cap5, rfl, how5, hb5⟩; have HO5 := Lib.hid how5; have HB5 := Lib.hid (HB4.out.trans (hb5.mono HB4.out.size)); have HO4 := Lib.hid (how4.out.below hb5 (Nat.le_refl _)); clear how5 hb5)
    | ((with_reducible refine wpList_app_st rfl (.tmp 29) (.tmp 31) rfl W1.heap.size a4 (4 + 4) cap4 ([k, c, 0, 0] ++ l4 g) rfl HO4.out a5 (4 + 4 * s.length) cap5 (besB ⟨k, 3, c, g, q, r, e, s, l⟩) rfl HO5.out.len (HO5.out.bsB HBB.out) HO5.out.nil (by have := HNA.out; omega) HB5.out.size ?_); intro a6 cap6 w6 how6 hb6 hst6; have HB6 := Lib.hid (HB5.out.trans hb6.out))
    | (go_at_call 26; refine (sPutK2 _ _ _ (enc0 ⟨k, 3, c, g, q, r, e, s, l⟩) _ (by have := HNA.out; omega) (by have h1 := HN.out; have h2 := HNA.out; omega) (by rw [EE.out]; exact how6.out.bs (by rw [← EE.out]; exact HI.out)) (by omega)).mono ?_; rintro e1 w9 ⟨gg, rfl, hob, hge, hb⟩; have HB9 := Lib.hid (HB6.out.trans (hb.mono HB6.out.size)); have HOB := Lib.hid hob; have HGE := Lib.hid hge; clear hob hge hb))
  go_ret2
  exact ⟨gg, by rw [HNA.out]; rfl, HOB.out, by have h1 := HGE.out; have h2 := BW1.out.size; have h3 := HB6.out.size; omega, BW1.out.trans (HB9.out.mono BW1.out.size)⟩

set_option maxHeartbeats 4000000 in
theorem gEncode_8 (k v c g r e : Int) (q : Bool) (s : List Int) (l : List Rec) (sa ra : Option Addr) (sc rc : Nat) (w : World) (h1 : Ms w ⟨k, v, c, g, q, r, e, s, l⟩ sa ra) (hf : (⟨k, v, c, g, q, r, e, s, l⟩ : Msg).fit) (hr : right ⟨k, v, c, g, q, r, e, s, l⟩ = true) (hk : k ≠ 34) (hv : v ≠ 3) :
    Calls Try.prog 13 #[.agg #[.int .u8 k, .int .i64 v, .int .u8 c, .int .u32 g, .bool q, .int .u8 r, .int .u8 e, .slice sa s.length sc, .slice ra l.length rc]] w fun x w' => ∃ gg, x = .returned (.tuple #[.slice (some ⟨gg, 0, none⟩) (enc0 ⟨k, v, c, g, q, r, e, s, l⟩).length (enc0 ⟨k, v, c, g, q, r, e, s, l⟩).length, .int .i64 0]) ∧ Ob w' gg (encM ⟨k, v, c, g, q, r, e, s, l⟩) ∧ w.heap.size ≤ gg ∧ Below w.heap.size w w' := by
  have HM := Lib.hid h1
  have HR := Lib.hid hr
  have HI := Lib.hid (isB_enc_m hf hr)
  have hln := right_len hr
  obtain ⟨N, hN⟩ : ∃ N, N = (enc0 ⟨k, v, c, g, q, r, e, s, l⟩).length := ⟨_, rfl⟩
  rw [← hN] at hln ⊢
  obtain ⟨hln1, hln2⟩ := hln
  have HN := Lib.hid hN
  have HF := Lib.hid hf
  obtain ⟨_, _, hc, hg, hrb, he, _, _⟩ := hf.1
  simp only at hc hg hrb he
  obtain ⟨g0, g1⟩ := hg
  have K34 := Lib.hid hk
  have hk0 : (k == 34) = false := by simp; exact hk
  have hv0 : (v == 3) = false := by simp; exact hv
  have HNA : Hid (N = 4 + 4) := Lib.hid (by rw [hN, enc0_len, if_neg hk, if_neg hv])
  have EE : Hid (enc0 ⟨k, v, c, g, q, r, e, s, l⟩ = [k, c, 0, 0] ++ l4 g) := Lib.hid (by simp [enc0, hk, hv])
  clear hk hv
  obtain ⟨W1, hW1⟩ : ∃ W1, w.alloc (.cells #[.int .u8 k, .int .i64 v, .int .u8 c, .int .u32 g, .bool q, .int .u8 r, .int .u8 e, .slice sa s.length sc, .slice ra l.length rc] 27) = W1 := ⟨_, rfl⟩
  have HW1 := Lib.hid hW1
  have BW1 := Lib.hid (by rw [← hW1]; exact bel1 w _ : Below w.heap.size w W1)
  clear h1 hf hr hN hW1 hc hrb he
  go_enter Try.func13, Try.ntmps13
  go_wp2_with (first
    | (go_at_call 15; refine (gRight ⟨k, v, c, g, q, r, e, s, l⟩ sa ra sc rc _ (HM.out.below (bel1 _ _))).mono ?_; rintro e1 w2 ⟨rfl, hb⟩; rw [HR.out]; rw [HW1.out] at hb; have HB2 := Lib.hid hb; obtain ⟨b0, b1, b2, b3, b4, b5, b6, b7, b8⟩ := boxW HW1.out hb; have lw2 := box_lt HW1.out hb; have HO2 : Hid (∀ x y : Int, Ow (w2.alloc (.cells #[.int .u8 x, .int .u8 y, .int .u8 0, .int .u8 0] 5)) W1.heap.size (some ⟨w2.heap.size, 0, none⟩) 4 4 [x, y, 0, 0]) := Lib.hid (fun x y => ow_four w2 W1.heap.size x y hb.size); clear hb)
    | (go_at_call 24; refine (aBytes4 g _ g0 g1).mono ?_; rintro e1 w3 ⟨rfl, rfl⟩)
    | ((with_reducible refine wpList_app_st rfl (.tmp 21) (.tmp 24) rfl W1.heap.size (some ⟨w2.heap.size, 0, none⟩) 4 4 [k, c, 0, 0] rfl ((HO2.out k c).alloc _) (some ⟨w2.heap.size + 1, 0, none⟩) 4 4 (l4 g) rfl rfl (bs_four2 _ _ g ⟨g0, g1⟩) (fun e => by cases e) (by omega) ((HB2.out.alloc HB2.out.size _).alloc (HB2.out.alloc HB2.out.size _).size _).size ?_); intro a4 cap4 w4 how4 hb4 hst4; have HB4 := Lib.hid (((HB2.out.alloc HB2.out.size _).alloc (HB2.out.alloc HB2.out.size _).size _).trans hb4.out); obtain ⟨p0, p1, p2, p3, p4, p5, p6, p7, p8⟩ := boxW HW1.out HB4.out)
    | (go_at_call 26; refine (sPutK2 _ _ _ (enc0 ⟨k, v, c, g, q, r, e, s, l⟩) _ (by have := HNA.out; omega) (by have h1 := HN.out; have h2 := HNA.out; omega) (by rw [EE.out]; exact how4.out.bs (by rw [← EE.out]; exact HI.out)) (by omega)).mono ?_; rintro e1 w9 ⟨gg, rfl, hob, hge, hb⟩; have HB9 := Lib.hid (HB4.out.trans (hb.mono HB4.out.size)); have HOB := Lib.hid hob; have HGE := Lib.hid hge; clear hob hge hb))
  go_ret2
  exact ⟨gg, by rw [HNA.out]; rfl, HOB.out, by have h1 := HGE.out; have h2 := BW1.out.size; have h3 := HB4.out.size; omega, BW1.out.trans (HB9.out.mono BW1.out.size)⟩

theorem gEncode_ok (x : Msg) (sa ra : Option Addr) (sc rc : Nat) (w : World) (h1 : Ms w x sa ra) (hf : x.fit) (hr : right x = true) :
    Calls Try.prog 13 #[.agg #[.int .u8 x.kind, .int .i64 x.ver, .int .u8 x.code, .int .u32 x.grp, .bool x.quiet, .int .u8 x.rob, .int .u8 x.every, .slice sa x.srcs.length sc, .slice ra x.recs.length rc]] w
      fun e w' => ∃ gg, e = .returned (.tuple #[.slice (some ⟨gg, 0, none⟩) (enc0 x).length (enc0 x).length, .int .i64 0]) ∧ Ob w' gg (encM x) ∧ w.heap.size ≤ gg ∧ Below w.heap.size w w' := by
  obtain ⟨k, v, c, g, q, r, e, s, l⟩ := x
  by_cases hk : k = 34
  · subst hk
    obtain rfl : v = 0 := (right_34 hr rfl).1
    exact gEncode_34 c g r e q s l sa ra sc rc w h1 hf hr
  by_cases hv : v = 3
  · subst hv
    exact gEncode_3 k c g r e q s l sa ra sc rc w h1 hf hr
  exact gEncode_8 k v c g r e q s l sa ra sc rc w h1 hf hr hk hv
end Go.Proofs.Ytmcnanoamgkljaa
