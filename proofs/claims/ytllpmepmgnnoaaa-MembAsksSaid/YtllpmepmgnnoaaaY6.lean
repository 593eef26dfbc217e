/- Package set's Make: the set of a row. -/
import Derived.Test.YtllpmepmgnnoaaaY0
import Derived.Test.YtllpmepmgnnoaaaY1
import Derived.Test.YtllpmepmgnnoaaaY2
import Derived.Test.YtllpmepmgnnoaaaY3
import Derived.Test.YtllpmepmgnnoaaaY4
import Derived.Test.YtllpmepmgnnoaaaY5
import Derived.Test.YtllpmepmgnnoaaaLaid
import Derived.BigQuiet
import Derived.Test.YtllpmepmgnnoaaaRows
import Derived.WalkKit
import Derived.ProofKit
import Derived.OpenShut
import Derived.ShutString
import Derived.ChangeOld
import Derived.Below
import Derived.Deep.DeepHandedRow
import Derived.Deep.Fields
import Derived.SizedLaws
namespace Go.Proofs.Ytllpmepmgnnoaaa
set_option linter.unusedVariables false
open Go.RowKit
open Go.Sort (PermIn)

/-- A number put into a set. -/
def insS (x : Int) : List Int → List Int
  | [] => [x]
  | y :: l => if x < y then x :: y :: l else if y < x then y :: insS x l else y :: l
theorem insS_mem (x z : Int) : ∀ l, z ∈ insS x l ↔ z = x ∨ z ∈ l
  | [] => by simp [insS]
  | y :: l => by
    rw [insS]
    split
    · simp
    · split
      · rw [List.mem_cons, insS_mem x z l, List.mem_cons]
        constructor
        · rintro (h | h | h)
          · exact .inr (.inl h)
          · exact .inl h
          · exact .inr (.inr h)
        · rintro (h | h | h)
          · exact .inr (.inl h)
          · exact .inl h
          · exact .inr (.inr h)
      · have e : x = y := by omega
        subst e; simp
theorem insS_inc (x : Int) : ∀ {l}, Inc l → Inc (insS x l)
  | [], _ => by simp [insS, inc_cons, inc_nil]
  | y :: l, h => by
    rw [inc_cons] at h
    rw [insS]
    split
    · rw [inc_cons, inc_cons]
      refine ⟨fun z hz => ?_, h⟩
      rcases List.mem_cons.1 hz with e | hz
      · omega
      · have := h.1 z hz; omega
    · split
      · rw [inc_cons]
        refine ⟨fun z hz => ?_, insS_inc x h.2⟩
        rcases (insS_mem x z l).1 hz with e | hz
        · omega
        · exact h.1 z hz
      · rw [inc_cons]; exact h
theorem insS_len (x : Int) : ∀ l : List Int, (insS x l).length ≤ l.length + 1
  | [] => by simp [insS]
  | y :: l => by
    rw [insS]
    split
    · simp
    · split
      · have := insS_len x l; simp; omega
      · simp
/-- The set of a row. -/
def mk : List Int → List Int
  | [] => []
  | x :: l => insS x (mk l)
theorem mk_inc : ∀ l, Inc (mk l)
  | [] => inc_nil
  | x :: l => insS_inc x (mk_inc l)
theorem mk_mem (z : Int) : ∀ l, z ∈ mk l ↔ z ∈ l
  | [] => Iff.rfl
  | x :: l => by rw [mk, insS_mem, mk_mem z l, List.mem_cons]
theorem mk_len : ∀ l : List Int, (mk l).length ≤ l.length
  | [] => Nat.le_refl _
  | x :: l => by
    have := insS_len x (mk l)
    have := mk_len l
    rw [mk]; simp; omega
theorem mk_of {l : List Int} (h : Inc l) : mk l = l := inc_ext (mk_inc l) h fun x => mk_mem x l
theorem mk_isA {l : List Int} (h : IsA l) : IsA (mk l) := by
  rw [isA_iff] at h ⊢
  exact fun x hx => h x ((mk_mem x l).1 hx)

/-- What stays of a row that rises, once each. -/
theorem compact_inc (d : Array Int) : ∀ m, Srt 0 m d → Inc (Lib.compactUpTo d m) ∧ (∀ x, x ∈ Lib.compactUpTo d m ↔ ∃ j, j < m ∧ d[j]! = x) ∧ ∀ x ∈ Lib.compactUpTo d m, 0 < m ∧ x ≤ d[m - 1]!
  | 0, _ => by simp [Lib.compactUpTo, inc_nil]
  | m + 1, h => by
    obtain ⟨h1, h2, h3⟩ := compact_inc d m (fun i j a b c => h i j a b (by omega))
    rw [Lib.compactUpTo_succ]
    by_cases hk : Lib.keeps d m = true
    · rw [if_pos hk]
      have hlt : ∀ x ∈ Lib.compactUpTo d m, x < d[m]! := fun x hx => by
        obtain ⟨hm, hle⟩ := h3 x hx
        have hne : d[m]! ≠ d[m - 1]! := fun e => by
          rw [Lib.keeps_neg hm e] at hk; cases hk
        have := h (m - 1) m (by omega) (by omega) (by omega)
        omega
      refine ⟨?_, fun x => ?_, fun x hx => ⟨by omega, ?_⟩⟩
      · unfold Inc
        rw [List.pairwise_append]
        exact ⟨h1, by simp, fun x hx y hy => by rw [List.mem_singleton] at hy; subst hy; exact hlt x hx⟩
      · rw [List.mem_append, h2, List.mem_singleton]
        constructor
        · rintro (⟨j, hj, e⟩ | e)
          · exact ⟨j, by omega, e⟩
          · exact ⟨m, by omega, e.symm⟩
        · rintro ⟨j, hj, e⟩
          by_cases hjm : j = m
          · subst hjm; exact .inr e.symm
          · exact .inl ⟨j, by omega, e⟩
      · rw [Nat.add_sub_cancel]
        rcases List.mem_append.1 hx with hx | hx
        · have := hlt x hx; omega
        · rw [List.mem_singleton] at hx; omega
    · have hm : 0 < m := by
        rcases Nat.eq_zero_or_pos m with rfl | hm
        · exact absurd (Lib.keeps_lt_one d 0 (by omega)) hk
        · exact hm
      have he : d[m]! = d[m - 1]! := Classical.byContradiction fun e => hk (Lib.keeps_pos e)
      rw [if_neg hk, List.append_nil]
      refine ⟨h1, fun x => ?_, fun x hx => ⟨by omega, by rw [Nat.add_sub_cancel, he]; exact (h3 x hx).2⟩⟩
      rw [h2]
      constructor
      · rintro ⟨j, hj, e⟩; exact ⟨j, by omega, e⟩
      · rintro ⟨j, hj, e⟩
        by_cases hjm : j = m
        · subst hjm; exact ⟨j - 1, by omega, by rw [← he]; exact e⟩
        · exact ⟨j, by omega, e⟩
theorem compact_mk {xs : List Int} {d' : Array Int} (hp : PermIn 0 xs.length xs.toArray d') (hs : Srt 0 xs.length d') : Lib.compactUpTo d' xs.length = mk xs := by
  obtain ⟨h1, h2, _⟩ := compact_inc d' xs.length hs
  refine inc_ext h1 (mk_inc xs) fun x => ?_
  rw [h2, mk_mem]
  have hsz : d'.size = xs.length := by rw [hp.1]; simp
  have hperm := hp.2.2
  have e1 : (xs.toArray.extract 0 xs.length).toList = xs := by simp
  have e2 : (d'.extract 0 xs.length).toList = d'.toList := by rw [← hsz]; simp
  rw [e1, e2] at hperm
  rw [← hperm.mem_iff]
  constructor
  · rintro ⟨j, hj, e⟩
    rw [← e, getElem!_pos d' j (by omega)]
    exact Array.getElem_mem_toList (by omega)
  · intro hx
    obtain ⟨i, hi, e⟩ := List.getElem_of_mem hx
    have hi' : i < d'.size := by simpa using hi
    exact ⟨i, by omega, by rw [getElem!_pos d' i hi', ← e]; simp⟩

theorem but1_put (enc : Int → Value) (w : World) (q g off : Nat) (d : Array Int) : But1 g w (Go.Sort.putRow enc (Go.Sort.ahead w q) g off d) :=
  ⟨rfl, rfl, rfl, by simp, fun k hk hne => by
    simp only [Go.Sort.putRow, Go.Sort.mapBlock, Array.getElem?_modify, Go.Sort.heap_ahead, if_neg (Ne.symm hne)]⟩
theorem Arr.holds {w : World} {g off : Nat} {d : Array Int} (h : Arr w g off d) : Go.Sort.Holds (Value.int .u32) w g off d := fun j hj => ⟨h.cell hj, h.frozen _⟩

theorem lCompact (g off cap : Nat) (d : Array Int) (w : World) (h : Arr w g off d) (hsz : d.size ≤ 1000000) (hcap : d.size ≤ cap) (hA : ∀ x ∈ Lib.compactUpTo d d.size, 0 ≤ x ∧ x ≤ 4294967295) :
    Calls Try.prog 74 #[.slice (some ⟨g, off, none⟩) d.size cap] w fun e w' => e = .returned (.slice (some ⟨g, off, none⟩) (Lib.compactUpTo d d.size).length cap) ∧ As w' (some ⟨g, off, none⟩) (Lib.compactUpTo d d.size) ∧ But1 g w w' := by
  refine Calls.mono (AnyE.slices_Compact Try.layC (Value.int .u32) (fun _ => rfl) (EqlAt.intD _ _ .u32) (NeqAt.intD _ _ .u32) 0 Try.zeroValue26 g off cap d w h.holds (by omega) hcap) ?_
  rintro e w' ⟨rfl, q, rfl⟩
  refine ⟨rfl, ⟨.inr ⟨g, off, rfl, fun k hk => ?_⟩, ?_⟩, but1_put _ _ _ _ _ _⟩
  · have hl : (Lib.compactUpTo d d.size).length ≤ d.size := by
      unfold Lib.compactUpTo
      rw [List.length_map]
      exact Nat.le_trans (List.length_filter_le _ _) (by simp)
    have := Go.Sort.cell?_putRow (Value.int .u32) (Go.Sort.ahead w q) g off d (Lib.compactUpTo d d.size ++ List.replicate (d.size - (Lib.compactUpTo d d.size).length) 0).toArray (Go.Sort.holds_ahead _ _ _ _ _ _ h.holds) (by simp; omega) k (by simp; omega)
    rw [this]
    congr 2
    rw [getElem!_pos _ k (by simp; omega)]
    simp [List.getElem_append_left hk, List.getD_eq_getElem?_getD, hk]
  · exact isA_iff.2 hA
theorem lCompact0 (a : Option Addr) (cap : Nat) (w : World) : Calls Try.prog 74 #[.slice a 0 cap] w fun e w' => e = .returned (.slice a 0 cap) ∧ w' = w := by
  go_enter Try.func74, Try.ntmps74
  go_wp2
  go_ret
  exact ⟨rfl, rfl⟩
end Go.Proofs.Ytllpmepmgnnoaaa
/- Package set's Make, walked. -/
namespace Go.Proofs.Ytllpmepmgnnoaaa
set_option linter.unusedVariables false
open Go.RowKit
open Go.Sort (PermIn)

theorem va_get {xs : List Int} {j : Nat} {v : Value} (h : (va xs)[j]? = some v) : j < xs.length ∧ v = .int .u32 (xs.getD j 0) := by
  have hj : j < (va xs).length := (List.getElem?_eq_some_iff.1 h).1
  have hj' : j < xs.length := by simpa [va] using hj
  refine ⟨hj', ?_⟩
  rw [va, List.getElem?_map, List.getElem?_eq_getElem hj'] at h
  simp at h
  rw [← h, List.getD_eq_getElem?_getD, List.getElem?_eq_getElem hj']; rfl
theorem va_len (xs : List Int) : (va xs).length = xs.length := by simp [va]
theorem va_one (xs : List Int) : ∀ u ∈ va xs, u.oneCell' = true := by
  intro u hu
  simp only [va, List.mem_map] at hu
  obtain ⟨x, _, rfl⟩ := hu
  rfl
theorem lClone (b off n c : Nat) (xs : List Int) (w : World) (hx : xs.length = n) (hm : n ≤ 1000000) (h : As w (some ⟨b, off, none⟩) xs) :
    Calls Try.prog 72 #[.slice (some ⟨b, off, none⟩) n c] w fun e w' => ∃ g cap, e = .returned (.slice (some ⟨g, 0, none⟩) n cap) ∧ w.heap.size ≤ g ∧ n ≤ cap ∧ Arr w' g 0 xs.toArray ∧ Below w.heap.size w w' := by
  obtain ⟨i0, hi, hz0, hz1, hz2⟩ := info_parts infoA
  refine Calls.mono (AnyE.slices_Clone Try.layK i0 (.int .u32 0) 1 4 hi hz0 hz1 hz2 rfl (by decide) Try.sizeOf26 b off n c (va xs) w (by rw [va_len]; omega) (by unfold maxLen; omega) (by omega) (fun j u hu => ?_) (va_one xs)) ?_
  · obtain ⟨hj, rfl⟩ := va_get hu
    rcases h.1 with e | ⟨b', off', e, hc⟩
    · rw [e] at hj; simp at hj
    · cases e; exact hc j hj
  · rintro e w' ⟨v', rfl, hown, hne, hb⟩
    obtain ⟨hl, ho⟩ := hown
    rcases ho with ⟨rfl, _⟩ | ⟨g, cap, cur, rfl, hB, hg, hnc, _, hsz, htk⟩
    · exact absurd rfl hne
    · refine ⟨g, cap, rfl, hB, hnc, ⟨cur, hg, by simp; omega, fun i hi => ?_⟩, hb⟩
      have hi' : i < xs.length := by simpa using hi
      have h1 : (cur.toList.take (n * 1))[i]? = some (.int .u32 (xs.getD i 0)) := by rw [htk]; simp [va, hi']
      rw [List.getElem?_take_of_lt (by omega)] at h1
      rw [Nat.zero_add, getElem!_pos _ i hi]
      simpa [List.getD_eq_getElem?_getD, hi'] using h1

set_option maxHeartbeats 1000000 in
theorem sMake (a : Option Addr) (n c : Nat) (xs : List Int) (w : World) (hx : xs.length = n) (hm : n ≤ 1000000) (h : As w a xs) (hf : Flat a n c) :
    Calls Try.prog 43 #[.slice a n c] w fun e w' => Out w e w' (mk xs) := by
  have HX := Lib.hid hx
  have H := Lib.hid h
  clear hx h
  rcases hf with ⟨rfl, rfl, rfl⟩ | ⟨b, off, rfl⟩
  · have hxs : xs = [] := List.eq_nil_of_length_eq_zero HX.out
    go_enter Try.func43, Try.ntmps43
    go_wp2_with (first | (go_at_call 72; refine (AnyE.slices_Clone_nil Try.layK _ _ _).mono ?_; rintro e w1 ⟨rfl, rfl⟩) | (go_at_call 73; refine (sSort0 _ _ _).mono ?_; rintro e w1 ⟨rfl, rfl⟩) | (go_at_call 74; refine (lCompact0 _ _ _).mono ?_; rintro e w1 ⟨rfl, rfl⟩))
    go_ret
    subst hxs
    exact ⟨⟨none, 0, rfl, As.nil _ _, .inl ⟨rfl, rfl, rfl⟩⟩, Below.refl _ _⟩
  · have hd : xs.toArray.size = n := by simpa using HX.out
    have HD := Lib.hid hd
    clear hd
    go_enter Try.func43, Try.ntmps43
    go_wp2_with fail
    refine (lClone b off n c xs _ HX.out hm H.out).mono ?_
    rintro e w1 ⟨g, cap, rfl, hg, hcap, hA, hb⟩
    have HA := Lib.hid hA
    have HB := Lib.hid hb
    clear hA hb
    go_wp2_with fail
    refine (sSort g 0 cap n xs.toArray _ HA.out HD.out hm).mono ?_
    rintro e w2 ⟨rfl, d', hps, hA2, hB2⟩
    have hds : d'.size = n := hps.1.1.trans HD.out
    have hck : Lib.compactUpTo d' n = mk xs := by
      have := hps
      rw [← HX.out] at this ⊢
      exact compact_mk this.1 this.2
    have CK := Lib.hid hck
    have HA2 := Lib.hid hA2
    have HB2 := Lib.hid (hB2.below hg HB.out.size)
    have HDS := Lib.hid hds
    clear hps hds hck hA2 hB2
    have hcomp := lCompact g 0 cap d' w2 HA2.out (by rw [HDS.out]; omega) (by rw [HDS.out]; exact hcap) (by rw [HDS.out, CK.out]; exact isA_iff.1 (mk_isA H.out.2))
    rw [HDS.out, CK.out] at hcomp
    have HC := Lib.hid hcomp
    clear hcomp
    go_wp2_with fail
    refine HC.out.mono ?_
    rintro e w3 ⟨rfl, hA3, hB3⟩
    have HA3 := Lib.hid hA3
    have HB3 := Lib.hid (hB3.below hg (Nat.le_trans HB.out.size HB2.out.size))
    clear hA3 hB3
    go_wp2
    go_ret
    exact ⟨⟨_, cap, rfl, HA3.out, .inr ⟨_, _, rfl⟩⟩, (HB.out.trans HB2.out).trans HB3.out⟩
end Go.Proofs.Ytllpmepmgnnoaaa
/- Filters; appending to rows of a call's own. -/
namespace Go.Proofs.Ytllpmepmgnnoaaa
set_option linter.unusedVariables false
open Go.RowKit

/-- A filter, and where its sources lie. -/
structure Flt where
  ex : Bool
  srcs : List Int
  a : Option Addr
  c : Nat
def Flt.sl (f : Flt) : Value := .slice f.a f.srcs.length f.c
/-- A filter's sources. -/
def FOk (w : World) (f : Flt) : Prop := As w f.a f.srcs ∧ (f.a = none → f.c = 0)
theorem FOk.below {w w' : World} {f : Flt} (h : FOk w f) (hb : Below w.heap.size w w') : FOk w' f := ⟨h.1.below hb, h.2⟩
/-- A filter in two cells. -/
def FAt (w : World) (b o : Nat) (f : Flt) : Prop := (w.cell? ⟨b, o, none⟩ = some (.bool f.ex) ∧ w.cell? ⟨b, o + 1, none⟩ = some f.sl) ∧ FOk w f
theorem FAt.below {w w' : World} {b o : Nat} {f : Flt} (h : FAt w b o f) (hb : Below w.heap.size w w') : FAt w' b o f :=
  ⟨⟨(hb.cell (p := ⟨b, o, none⟩) (cell_lt h.1.1)).trans h.1.1, (hb.cell (p := ⟨b, o + 1, none⟩) (cell_lt h.1.2)).trans h.1.2⟩, h.2.below hb⟩
/-- A slice of filters. -/
def Fls (w : World) (a : Option Addr) (fs : List Flt) : Prop := fs = [] ∨ ∃ b off, a = some ⟨b, off, none⟩ ∧ ∀ (k : Nat) f, fs[k]? = some f → FAt w b (off + k * 2) f
theorem Fls.below {w w' : World} {a : Option Addr} {fs : List Flt} (h : Fls w a fs) (hb : Below w.heap.size w w') : Fls w' a fs := by
  rcases h with h | ⟨b, off, e, hc⟩
  · exact .inl h
  · exact .inr ⟨b, off, e, fun k f hk => (hc k f hk).below hb⟩
theorem Fls.at {w : World} {a : Option Addr} {fs : List Flt} (h : Fls w a fs) {k : Nat} (hk : k < fs.length) : ∃ b off, a = some ⟨b, off, none⟩ ∧ ∀ (k : Nat) f, fs[k]? = some f → FAt w b (off + k * 2) f := by
  rcases h with e | h
  · rw [e] at hk; simp at hk
  · exact h

theorem own_ty {w w' : World} {B B2 size size2 n m : Nat} {e e2 : TypeId} {v v2 : Value} {xs ys : List Value} (h : w.ownsRow B e size v n xs) (h2 : w.ownsRow B2 e2 size2 v2 m ys) (hne : e ≠ e2) (hg : w.grownBy w' v2.ownBlock) : w'.ownsRow B e size v n xs := by
  refine h.kept hg ?_
  rcases h.2 with ⟨rfl, _⟩ | ⟨g, cap, cur, rfl, _, hb, _⟩
  · exact .inl rfl
  · refine .inr fun e' => ?_
    rcases h2.2 with ⟨rfl, _⟩ | ⟨g2, cap2, cur2, rfl, _, hb2, _⟩
    · simp [Value.ownBlock] at e'
    · obtain rfl : g = g2 := by simpa [Value.ownBlock] using e'
      rw [hb] at hb2
      simp at hb2
      exact hne hb2.2
theorem own_grown {w w' : World} {B B' size n : Nat} {e : TypeId} {v : Value} {xs : List Value} (h : w.ownsRow B e size v n xs) (hb : Below B' w w') (hB : w.heap.size ≤ B') : w'.ownsRow B e size v n xs := by
  refine ⟨h.1, ?_⟩
  rcases h.2 with e | ⟨g, c, cur, e, h1, h2, h3⟩
  · exact .inl e
  · exact .inr ⟨g, c, cur, e, h1, (hb.block g (Nat.lt_of_lt_of_le (Array.getElem?_eq_some_iff.1 h2).1 hB)).trans h2, h3⟩
theorem own_sl {w : World} {B n size : Nat} {e : TypeId} {v : Value} {xs : List Value} (h : w.ownsRow B e size v n xs) : ∃ a c, v = .slice a n c ∧ Flat a n c := by
  rcases h.2 with ⟨rfl, rfl⟩ | ⟨g, cap, cur, rfl, _⟩
  · exact ⟨none, 0, rfl, .inl ⟨rfl, rfl, rfl⟩⟩
  · exact ⟨_, cap, rfl, .inr ⟨_, _, rfl⟩⟩
theorem grown_below {w w' : World} {B : Nat} {v : Value} {n size : Nat} {e : TypeId} {xs : List Value} (hb : w.ownsRow B e size v n xs) (hg : w.grownBy w' v.ownBlock) (hB : B ≤ w.heap.size) : Below B w w' := (Below.refl B w).grown hg hB (own_ge' hb)
theorem va_append (xs ys : List Int) : va (xs ++ ys) = va xs ++ va ys := by simp [va]
/-- append(own, src...), src whatever holds addresses. -/
theorem wpList_app_as {w : World} {ops : Array Oper} {rest : List Oper} {o : Oper} {a : Act} {Q : Exit → Act → World → Prop} (hgd : o.guard = none) (s x : Operand)
    (ho : o.op = .call { callee := .builtin .append, args := #[s, x], argTypes := #[27, 27] }) (B : Nat) (v : Value) (n : Nat) (xs : List Int) (hs : a.eval s = v) (hown : w.ownsRow B 26 1 v n (va xs)) (hn : xs.length = n)
    (a2 : Option Addr) (m c : Nat) (ys : List Int) (hx : a.eval x = .slice a2 m c) (hy : ys.length = m) (hb : As w a2 ys) (hf : a2 = none → c = 0) (hsz : n + m ≤ 1000000) (hB : B ≤ w.heap.size)
    (h : ∀ a' cap' w', Hid (w'.ownsRow B 26 1 (.slice a' (n + m) cap') (n + m) (va (xs ++ ys))) → Hid (w.grownBy w' v.ownBlock) → wpList Try.prog ops Q rest (a.put o.dst (.slice a' (n + m) cap')) w') : wpList Try.prog ops Q (o :: rest) a w := by
  obtain ⟨i0, hi, hz0, hz1, hz2⟩ := info_parts infoA
  match a2, hf, hb, hx with
  | none, hf, hb, hx =>
    obtain rfl : c = 0 := hf rfl
    obtain rfl : ys = [] := by
      rcases hb.1 with e | ⟨_, _, e, _⟩
      · exact e
      · cases e
    obtain rfl : m = 0 := hy.symm
    refine wpList_append_own_none hgd s x 27 ho B 26 i0 1 Try.underlying27 hi v n (va xs) hs hown hx ?_
    obtain ⟨a1, c1, rfl, _⟩ := own_sl hown
    have := h a1 c1 w (by rw [List.append_nil]; exact hown) (World.grownBy.refl _ _)
    simpa using this
  | some ad, hf, hb, hx =>
    refine wpList_append_own w hgd s x 27 ho B 26 i0 (.int .u32 0) 1 4 Try.underlying27 hi hz0 hz1 hz2 rfl (by decide) v n (va xs) hs hown ad m c (va ys) hx (by rw [va_len, hy]; omega) ?_ (va_one ys) (by unfold maxLen; omega) (by omega) hB ?_
    · intro j u hu
      obtain ⟨hj, rfl⟩ := va_get hu
      rcases hb.1 with rfl | ⟨b', off', e, hc⟩
      · simp at hj
      · cases e
        rw [add_flat]; exact hc j hj
    · intro v' w' hown' hgrow _
      rw [← va_append] at hown'
      obtain ⟨a', c', rfl, _⟩ := own_sl hown'
      exact h a' c' w' hown' hgrow
/-- append(own, one), any element of one cell. -/
theorem wpList_app_cell {w : World} {ops : Array Oper} {rest : List Oper} {o : Oper} {a : Act} {Q : Exit → Act → World → Prop} (hgd : o.guard = none) (t e : TypeId) (i0 : TypeInfo) (zv : Value) (size bytes : Nat) (hu : Try.prog.underlying t = some (.slice e)) (hi : Try.prog.info? e = some i0)
    (hz0 : i0.zero = some zv) (hz1 : i0.size = size) (hz2 : i0.bytes = bytes) (hzs : zv.cells.size = size) (hsz : 0 < size) (hby : bytes ≤ 1000) (s x : Operand)
    (ho : o.op = .call { callee := .builtin .append, args := #[s, x], argTypes := #[t, t] }) (B : Nat) (v : Value) (n : Nat) (xs : List Value) (hs : a.eval s = v) (hown : w.ownsRow B e size v n xs)
    (ad : Addr) (c : Nat) (news : List Value) (hx : a.eval x = .slice (some ad) 1 c) (hl : news.length = 1 * size) (hnews : ∀ j u, news[j]? = some u → w.cell? (ad.add j) = some u) (h1 : ∀ u ∈ news, u.oneCell' = true) (hn : n ≤ 1000000) (hB : B ≤ w.heap.size)
    (h : ∀ a' cap' w', Hid (w'.ownsRow B e size (.slice a' (n + 1) cap') (n + 1) (xs ++ news)) → Hid (w.grownBy w' v.ownBlock) → wpList Try.prog ops Q rest (a.put o.dst (.slice a' (n + 1) cap')) w') : wpList Try.prog ops Q (o :: rest) a w :=
  wpList_append_own w hgd s x t ho B e i0 zv size bytes hu hi hz0 hz1 hz2 hzs hsz v n xs hs hown ad 1 c news hx hl hnews h1 (by unfold maxLen; omega) (by have : (n + 1) * bytes ≤ 1000001 * 1000 := Nat.mul_le_mul (by omega) hby; omega) hB fun v' w' hown' hgrow _ => by
    obtain ⟨a', c', rfl, _⟩ := own_sl hown'
    exact h a' c' w' hown' hgrow
/-- A result that lies in a variable. -/
theorem ret_cell1 {P : Program} {fn : Func} {R : Ending → World → Prop} {a : Act} {w : World} {p : Nat} {ty : TypeId} {q : Addr} {x : Value} (hr : fn.results = #[.cell p ty]) (hd : a.defers = []) (hp : a.tmps.getD p undef = .pointer (some q))
    (hl : (loadVar ty q).run P w = .ok x w) (hR : R (.returned x) w) : bodyPost P fn R .ret a w := by
  refine ⟨hd, _, ?_, hR⟩
  have hp' : a.tmps[p]?.getD undef = .pointer (some q) := by simpa using hp
  simp only [results, hr]
  simp [asAddr, hp', hl]
theorem infoS : (Try.prog.info? 27).map (fun i => (i.zero, i.size, i.bytes)) = some (some (.slice none 0 0), 1, 24) := by kernel_rfl

/-- What filters want together. -/
def withs (fs : List Flt) : List Flt := fs.filter (·.ex)
def wo (fs : List Flt) : List Int := (fs.filter fun f => !f.ex).flatMap (·.srcs)
def flt (fs : List Flt) : Bool × List Int :=
  match withs fs with
  | [] => (false, mk (wo fs))
  | f :: r => (true, dif (r.foldl (fun l g => int l g.srcs) f.srcs) (mk (wo fs)))
theorem withs_yes {fs : List Flt} {f : Flt} (h : f.ex = true) : withs (fs ++ [f]) = withs fs ++ [f] := by simp [withs, h]
theorem withs_no {fs : List Flt} {f : Flt} (h : f.ex = false) : withs (fs ++ [f]) = withs fs := by simp [withs, h]
theorem wo_yes {fs : List Flt} {f : Flt} (h : f.ex = true) : wo (fs ++ [f]) = wo fs := by simp [wo, h]
theorem wo_no {fs : List Flt} {f : Flt} (h : f.ex = false) : wo (fs ++ [f]) = wo fs ++ f.srcs := by simp [wo, h]
/-- Few of them. -/
def FewF (fs : List Flt) : Prop := fs.length ≤ 400 ∧ ∀ f ∈ fs, f.srcs.length ≤ 400
theorem wo_len {fs : List Flt} (h : ∀ f ∈ fs, f.srcs.length ≤ 400) : (wo fs).length ≤ fs.length * 400 := by
  induction fs with
  | nil => simp [wo]
  | cons f r ih =>
    have h1 := ih fun g hg => h g (List.mem_cons_of_mem _ hg)
    have h2 := h f (List.mem_cons_self ..)
    have e : wo (f :: r) = (if f.ex then [] else f.srcs) ++ wo r := by cases hx : f.ex <;> simp [wo, hx]
    rw [e, List.length_append]
    have : (if f.ex = true then ([] : List Int) else f.srcs).length ≤ 400 := by
      split
      · simp
      · exact h2
    simp only [List.length_cons]
    omega
theorem wo_isA {w : World} {fs : List Flt} (h : ∀ f ∈ fs, FOk w f) : IsA (wo fs) := by
  rw [isA_iff]
  intro x hx
  unfold wo at hx
  obtain ⟨f, hf, hx⟩ := List.mem_flatMap.1 hx
  exact isA_iff.1 (h f (List.mem_filter.1 hf).1).1.2 x hx
end Go.Proofs.Ytllpmepmgnnoaaa
/- Package set's Filter. -/
namespace Go.Proofs.Ytllpmepmgnnoaaa
set_option linter.unusedVariables false
open Go.RowKit

theorem blk_ty {w w' : World} {g B2 size2 m : Nat} {e e2 : TypeId} {c : Array Value} {v2 : Value} {ys : List Value} (h : w.heap[g]? = some (.cells c e (0, 0))) (h2 : w.ownsRow B2 e2 size2 v2 m ys) (hne : e ≠ e2) (hg : w.grownBy w' v2.ownBlock) : w'.heap[g]? = some (.cells c e (0, 0)) := by
  refine (hg.block g (Array.getElem?_eq_some_iff.1 h).1 fun e' => ?_).trans h
  rcases h2.2 with ⟨rfl, _⟩ | ⟨g2, cap2, cur2, rfl, _, hb2, _⟩
  · simp [Value.ownBlock] at e'
  · obtain rfl : g = g2 := by simpa [Value.ownBlock] using e'
    rw [h] at hb2
    simp at hb2
    exact hne hb2.2
theorem blk_alloc {w : World} {g : Nat} {o : Obj} (h : w.heap[g]? = some o) (o' : Obj) : (w.alloc o').heap[g]? = some o := (((Below.refl w.heap.size w).alloc (Nat.le_refl _) o').block g (Array.getElem?_eq_some_iff.1 h).1).trans h
theorem take_succ {fs : List Flt} {k : Nat} {f : Flt} (h : fs[k]? = some f) : fs.take (k + 1) = fs.take k ++ [f] := by
  rw [List.take_add_one, h]; rfl
/-- What Filter hands back. -/
def OutF (w : World) (e : Ending) (w' : World) (r : Bool × List Int) : Prop := (∃ a c, e = .returned (.agg #[.bool r.1, .slice a r.2.length c]) ∧ As w' a r.2 ∧ Flat a r.2.length c) ∧ Below w.heap.size w w'

theorem As.other {w w' : World} {a : Option Addr} {xs : List Int} {N : Nat} (h : As w a xs) (hN : ∀ o x, w.cell? ⟨N, o, none⟩ ≠ some (.int .u32 x)) (hb : ∀ k, k ≠ N → w'.heap[k]? = w.heap[k]?) : As w' a xs := by
  refine ⟨?_, h.2⟩
  rcases h.1 with e | ⟨b, off, e, hc⟩
  · exact .inl e
  · refine .inr ⟨b, off, e, fun k hk => ?_⟩
    have hne : b ≠ N := fun e' => by subst e'; exact hN _ _ (hc k hk)
    exact (World.cell?_of_block (w := w) (hb b hne)).trans (hc k hk)
/-- The result's variable, filled. -/
theorem fin_filter {w w5 : World} {N : Nat} (hR : w5.heap[N]? = some (.cells #[.bool false, .slice none 0 0] 37 (0, 0))) (hb : Below N w w5) {a : Option Addr} {zs : List Int} (hA : As w5 a zs) (ex : Bool) (c : Nat) :
    ((w5.cell? ⟨N, 0, none⟩ = some (.bool false) ∧ w5.cell? ⟨N, 1, none⟩ = some (.slice none 0 0)) ∧ w5.frozen? ⟨N, 0, none⟩ = false ∧ w5.frozen? ⟨N, 1, none⟩ = false) ∧
    (loadVar 37 ⟨N, 0, none⟩).run Try.prog ((w5.setCell ⟨N, 0, none⟩ (.bool ex)).setCell ⟨N, 1, none⟩ (.slice a zs.length c)) = .ok (.agg #[.bool ex, .slice a zs.length c]) ((w5.setCell ⟨N, 0, none⟩ (.bool ex)).setCell ⟨N, 1, none⟩ (.slice a zs.length c)) ∧
    As ((w5.setCell ⟨N, 0, none⟩ (.bool ex)).setCell ⟨N, 1, none⟩ (.slice a zs.length c)) a zs ∧ Below N w ((w5.setCell ⟨N, 0, none⟩ (.bool ex)).setCell ⟨N, 1, none⟩ (.slice a zs.length c)) := by
  refine ⟨⟨⟨by simp [World.cell?, hR], by simp [World.cell?, hR]⟩, by simp [World.frozen?, hR], by simp [World.frozen?, hR]⟩, ?_, ?_, (hb.setCell (p := ⟨N, 0, none⟩) (Nat.le_refl _) _).setCell (p := ⟨N, 1, none⟩) (Nat.le_refl _) _⟩
  · have hR2 : ((w5.setCell ⟨N, 0, none⟩ (.bool ex)).setCell ⟨N, 1, none⟩ (.slice a zs.length c)).heap[N]? = some (.cells #[.bool ex, .slice a zs.length c] 37 (0, 0)) := by simp [World.setCell, Array.getElem?_modify, hR]
    generalize (w5.setCell ⟨N, 0, none⟩ (.bool ex)).setCell ⟨N, 1, none⟩ (.slice a zs.length c) = W at *
    have c0 : W.cell? ⟨N, 0, none⟩ = some (.bool ex) := by simp [World.cell?, hR2]
    have c1 : W.cell? ⟨N, 1, none⟩ = some (.slice a zs.length c) := by simp [World.cell?, hR2]
    clear hR2 hR hb hA
    go_simp
  · refine hA.other (N := N) (fun o x e => ?_) fun k hk => ?_
    · simp only [World.cell?, hR] at e
      match o with
      | 0 => simp at e
      | 1 => simp at e
      | o + 2 => simp at e
    · rw [Below.heap_setCell _ ⟨N, 1, none⟩ _ k hk, Below.heap_setCell _ ⟨N, 0, none⟩ _ k hk]
theorem own_cell {w : World} {B n : Nat} {e : TypeId} {a : Option Addr} {c : Nat} {xs : List Value} (h : w.ownsRow B e 1 (.slice a n c) n xs) (hn : 0 < n) : ∃ g, a = some ⟨g, 0, none⟩ ∧ n ≤ c ∧ ∀ j u, xs[j]? = some u → w.cell? ⟨g, j, none⟩ = some u := by
  obtain ⟨hl, h⟩ := h
  rcases h with ⟨_, e⟩ | ⟨g, cap, cur, e, hB, hg, hnc, _, hsz, htk⟩
  · omega
  · simp at e
    obtain ⟨rfl, rfl⟩ := e
    refine ⟨g, rfl, hnc, fun j u hu => ?_⟩
    have hj : j < n := by have := (List.getElem?_eq_some_iff.1 hu).1; omega
    rw [← htk, List.getElem?_take_of_lt (by omega)] at hu
    simp [World.cell?, hg]
    simpa using hu
theorem thr_left (a b : List Int) : ((thr a b).filter fun t => t.2.1).length = a.length := by
  refine thr_ind (P := fun a b => ((thr a b).filter fun t => t.2.1).length = a.length) ?_ ?_ ?_ ?_ ?_ ?_ a b
  · rw [thr_nil]; rfl
  · intro x a h; rw [thr_l]; simp at h ⊢; exact h
  · intro y b h; rw [thr_r]; simp at h ⊢; exact h
  · intro x y a b hxy h; rw [thr_lt hxy]; simp at h ⊢; exact h
  · intro x y a b hxy h; rw [thr_gt hxy]; simp at h ⊢; exact h
  · intro x a b h; rw [thr_eq]; simp at h ⊢; exact h
theorem filter_le {l : List Z3} {p q : Z3 → Bool} (h : ∀ t, p t = true → q t = true) : (l.filter p).length ≤ (l.filter q).length := by
  induction l with
  | nil => simp
  | cons t l ih =>
    rw [List.filter_cons, List.filter_cons]
    cases hp : p t with
    | true => rw [h t hp]; simp; exact ih
    | false =>
      cases hq : q t <;> simp <;> omega
theorem int_len (a b : List Int) : (int a b).length ≤ a.length := by
  unfold int those
  rw [List.length_map, ← thr_left a b]
  exact filter_le fun t h => by simp at h; exact h.1
theorem dif_len (a b : List Int) : (dif a b).length ≤ a.length := by
  unfold dif those
  rw [List.length_map, ← thr_left a b]
  exact filter_le fun t h => by simp at h; exact h.1
theorem fold_len (r : List Flt) (l : List Int) : (r.foldl (fun l g => int l g.srcs) l).length ≤ l.length := by
  induction r generalizing l with
  | nil => exact Nat.le_refl _
  | cons g r ih => exact Nat.le_trans (ih _) (int_len _ _)
theorem fold_succ {r : List Flt} {k : Nat} {g : Flt} (h : r[k]? = some g) (l : List Int) : (r.take (k + 1)).foldl (fun l g => int l g.srcs) l = int ((r.take k).foldl (fun l g => int l g.srcs) l) g.srcs := by
  rw [take_succ h, List.foldl_append]; rfl

set_option maxRecDepth 100000 in
set_option maxHeartbeats 4000000 in
theorem sFilter (a : Option Addr) (n c : Nat) (fs : List Flt) (w : World) (hx : fs.length = n) (hfew : FewF fs) (hF : Fls w a fs) :
    Calls Try.prog 40 #[.slice a n c] w fun e w' => OutF w e w' (flt fs) := by
  obtain ⟨i0, hi, hz0, hz1, hz2⟩ := info_parts infoS
  have hn400 : n ≤ 400 := by rw [← hx]; exact hfew.1
  have HX := Lib.hid hx
  have HF := Lib.hid hF
  have HW := Lib.hid hfew
  have hwo : ∀ k, (wo (fs.take k)).length ≤ 160000 := fun k => by
    have h1 := wo_len (fs := fs.take k) fun f hf => hfew.2 f (List.mem_of_mem_take hf)
    have h2 : (fs.take k).length ≤ 400 := Nat.le_trans (List.length_take_le' _ _) hfew.1
    omega
  have hws : ∀ k, (withs (fs.take k)).length ≤ 400 := fun k => by
    have h2 : (fs.take k).length ≤ 400 := Nat.le_trans (List.length_take_le' _ _) hfew.1
    have : (withs (fs.take k)).length ≤ (fs.take k).length := List.length_filter_le _ _
    omega
  have HWO := Lib.hid hwo
  have HWS := Lib.hid hws
  clear hx hF hfew hwo hws
  go_enter Try.func40, Try.ntmps40
  go_wp2
  go_loopw [3, 4, 13] (fun v3 v4 v13 wr => ∃ k : Nat, v13 = .int .i64 (k : Int) ∧ k ≤ n ∧ wr.ownsRow w.heap.size 27 1 v3 (withs (fs.take k)).length ((withs (fs.take k)).map Flt.sl) ∧ wr.ownsRow w.heap.size 26 1 v4 (wo (fs.take k)).length (va (wo (fs.take k))) ∧
      Below w.heap.size w wr ∧ wr.heap[w.heap.size]? = some (.cells #[.bool false, .slice none 0 0] 37 (0, 0))) (fun _ _ v _ => n - (intOf v).toNat)
  case atStart => exact ⟨0, rfl, by omega, World.ownsRow_nil _ _ _ _, World.ownsRow_nil _ _ _ _, bel1 w _, Go.Deep.blk_alloc_new _ _⟩
  case round =>
    obtain ⟨k, rfl, hk, h3, h4, hB, hR⟩ := hrel
    have H3 := Lib.hid h3
    have H4 := Lib.hid h4
    have HB := Lib.hid hB
    have HR := Lib.hid hR
    have hNs : w.heap.size < wr.heap.size := (Array.getElem?_eq_some_iff.1 hR).1
    clear h3 h4 hB hR
    by_cases hlt : k < n
    · obtain ⟨b, off, rfl, hc⟩ := HF.out.at (k := k) (by rw [HX.out]; exact hlt)
      obtain ⟨⟨ex, srcs, fa, fc⟩, hfk⟩ : ∃ f, fs[k]? = some f := ⟨_, List.getElem?_eq_getElem (by rw [HX.out]; exact hlt)⟩
      have hat := (hc k _ hfk).below HB.out
      have hmem := List.mem_of_getElem? hfk
      have hs400 : srcs.length ≤ 400 := HW.out.2 _ hmem
      obtain ⟨⟨c0, c1⟩, hok⟩ := hat
      simp only [Flt.sl] at c1
      have HOK := Lib.hid hok
      have HFK := Lib.hid hfk
      have b1 := HWO.out k
      have b2 := HWS.out k
      have hkz : (k : Int) < (n : Int) := by omega
      clear hc hok hfk hmem
      cases ex
      · go_wp2_with (first | (refine wpList_app_as rfl (.tmp 24) (.tmp 26) rfl w.heap.size _ (wo (fs.take k)).length (wo (fs.take k)) rfl (H4.out.alloc _) rfl fa srcs.length fc srcs rfl rfl (HOK.out.below (bel1 wr _)).1 HOK.out.2 (by omega) (by simp; omega) ?_; intro a' cap' w' hown hg))
        go_roundw
        case rel =>
          refine ⟨k + 1, by go_num, by omega, ?_, ?_, HB.out.trans (((Below.refl _ wr).alloc HB.out.size _).trans (grown_below (H4.out.alloc _) hg.out (by simp; omega))), blk_ty (blk_alloc HR.out _) (H4.out.alloc _) (by decide) hg.out⟩
          · rw [take_succ HFK.out, withs_no rfl]
            exact own_ty (H3.out.alloc _) (H4.out.alloc _) (by decide) hg.out
          · rw [take_succ HFK.out, wo_no rfl, List.length_append]
            exact hown.out
        case measure => simp [intOf]; omega
      · have hn1 := news_new (wr.alloc (.cells #[.bool true, .slice fa srcs.length fc] 37)) [.slice fa srcs.length fc] 27
        rw [World.size_alloc] at hn1
        have HN1 := Lib.hid hn1
        clear hn1
        go_wp2_with (first | (refine wpList_app_cell rfl 115 27 i0 (.slice none 0 0) 1 24 Try.underlying115 hi hz0 hz1 hz2 rfl (by decide) (by omega) (.tmp 19) (.tmp 22) rfl w.heap.size _ (withs (fs.take k)).length ((withs (fs.take k)).map Flt.sl) rfl ((H3.out.alloc _).alloc _) ⟨wr.heap.size + 1, 0, none⟩ 1 [.slice fa srcs.length fc] rfl rfl HN1.out (by simp [Value.oneCell']) (by omega) (by simp; omega) ?_; intro a' cap' w' hown hg))
        go_roundw
        case rel =>
          refine ⟨k + 1, by go_num, by omega, ?_, ?_, HB.out.trans ((((Below.refl _ wr).alloc HB.out.size _).alloc (by simp; omega) _).trans (grown_below ((H3.out.alloc _).alloc _) hg.out (by simp; omega))), blk_ty (blk_alloc (blk_alloc HR.out _) _) ((H3.out.alloc _).alloc _) (by decide) hg.out⟩
          · rw [take_succ HFK.out, withs_yes rfl, List.length_append, List.map_append]
            exact hown.out
          · rw [take_succ HFK.out, wo_yes rfl]
            exact own_ty ((H4.out.alloc _).alloc _) ((H3.out.alloc _).alloc _) (by decide) hg.out
        case measure => simp [intOf]; omega
    · obtain rfl : k = n := by omega
      have htk : fs.take k = fs := List.take_of_length_le (by rw [HX.out]; exact Nat.le_refl _)
      have b1 := HWO.out k
      have b2 := HWS.out k
      have H3' := H3.out
      have H4' := H4.out
      rw [htk] at H3' H4' b1 b2
      clear H3 H4 htk
      obtain ⟨a3, c3, rfl, f3⟩ := own_sl H3'
      obtain ⟨a4, c4, rfl, f4⟩ := own_sl H4'
      have H3 := Lib.hid H3'
      have H4 := Lib.hid H4'
      have hA4 := (AsO.of rfl H4').as (wo_isA fun f hf => by
        obtain ⟨i, hi, e⟩ := List.getElem_of_mem hf
        obtain ⟨b, off, _, hc⟩ := HF.out.at hi
        exact (hc i f (by rw [List.getElem?_eq_getElem hi, e])).2)
      have HA4 := Lib.hid hA4
      have F4 := Lib.hid f4
      have F3 := Lib.hid f3
      clear H3' H4' hA4 f3 f4
      go_wp2_with fail
      refine (sMake a4 _ c4 (wo fs) _ rfl (by omega) HA4.out F4.out).mono ?_
      rintro e w5 ⟨⟨a5, c5, rfl, hA5, hf5⟩, hB5⟩
      have HA5 := Lib.hid hA5
      have HF5 := Lib.hid hf5
      have HB5 := Lib.hid hB5
      have H35 := Lib.hid (own_grown H3.out hB5 (Nat.le_refl _))
      have HR5 : Hid (w5.heap[w.heap.size]? = some (.cells #[.bool false, .slice none 0 0] 37 (0, 0))) := Lib.hid ((hB5.block _ hNs).trans HR.out)
      have HBB := Lib.hid (HB.out.trans (hB5.mono HB.out.size))
      clear hA5 hf5 hB5
      have hwm : ∀ f ∈ withs fs, FOk w f ∧ f.srcs.length ≤ 400 := fun f hf => by
        have hf' := (List.mem_filter.1 hf).1
        refine ⟨?_, HW.out.2 f hf'⟩
        obtain ⟨i, hi, e⟩ := List.getElem_of_mem hf'
        obtain ⟨b, off, _, hc⟩ := HF.out.at hi
        exact (hc i f (by rw [List.getElem?_eq_getElem hi, e])).2
      have hmk := mk_len (wo fs)
      rcases hw : withs fs with _ | ⟨f0, rest⟩
      · have hfl : flt fs = (false, mk (wo fs)) := by unfold flt; rw [hw]
        have HFL := Lib.hid hfl
        obtain ⟨⟨⟨r0, r1⟩, q0, q1⟩, hl, hA', hb'⟩ := fin_filter HR5.out HBB.out HA5.out false c5
        have HL := Lib.hid hl
        have HA' := Lib.hid hA'
        have HB' := Lib.hid hb'
        clear hfl hwm hl hA' hb' hmk
        simp only [List.length_nil]
        go_wp2_with fail
        refine ret_cell1 (p := 2) rfl rfl rfl HL.out ?_
        rw [HFL.out]
        exact ⟨⟨a5, c5, rfl, HA'.out, HF5.out⟩, HB'.out⟩
      · have hfl : flt fs = (true, dif (rest.foldl (fun l g => int l g.srcs) f0.srcs) (mk (wo fs))) := by unfold flt; rw [hw]
        have HFL := Lib.hid hfl
        obtain ⟨m, hm⟩ : ∃ m, rest.length = m := ⟨_, rfl⟩
        have hl1 : (f0 :: rest).length = m + 1 := by simp [hm]
        have HM := Lib.hid hm
        have H35' := H35.out
        have hwm' := hwm
        rw [hw] at b2 H35' hwm'
        rw [hl1] at b2 H35' ⊢
        clear hwm
        have hwm := hwm'
        clear hwm' hw
        obtain ⟨g, rfl, hnc, hcell⟩ := own_cell H35' (by omega)
        have c0 : w5.cell? ⟨g, 0, none⟩ = some (.slice f0.a f0.srcs.length f0.c) := hcell 0 _ rfl
        have HC := Lib.hid hcell
        have HWM := Lib.hid hwm
        have hA0 : As w5 f0.a f0.srcs := (hwm f0 (by simp)).1.1.below HBB.out
        have HA0 := Lib.hid hA0
        clear hfl hm hl1 H35' hcell hwm hA0 H35
        go_wp2_with fail
        all_goals
          go_loopw [8, 10, 42] (fun v8 v10 v42 wr2 => ∃ (j : Nat) (a' : Option Addr) (c' : Nat), v42 = .int .i64 (j : Int) ∧ j ≤ m ∧ v8 = .slice a' ((rest.take j).foldl (fun l g => int l g.srcs) f0.srcs).length c' ∧ As wr2 a' ((rest.take j).foldl (fun l g => int l g.srcs) f0.srcs) ∧ Below w5.heap.size w5 wr2) (fun _ _ v _ => m - (intOf v).toNat)
          case atStart => exact ⟨0, f0.a, f0.c, rfl, by omega, rfl, HA0.out, Below.refl _ _⟩
          case round =>
            obtain ⟨j, a', c', rfl, hj, rfl, hA, hB2⟩ := hrel
            have HA := Lib.hid hA
            have HB2 := Lib.hid hB2
            have hlen := Nat.le_trans (fold_len (rest.take j) f0.srcs) (HWM.out f0 (by simp)).2
            clear hA hB2
            by_cases hlt2 : j < m
            · first
              | (exfalso; omega)
              | (obtain ⟨⟨ex, srcs, fa, fc⟩, hfj⟩ : ∃ f, rest[j]? = some f := ⟨_, List.getElem?_eq_getElem (by rw [HM.out]; exact hlt2)⟩
                 have hck : wr.cell? ⟨g, 1 + j, none⟩ = some (.slice fa srcs.length fc) := by
                   have hck := HC.out (1 + j) (.slice fa srcs.length fc) (by rw [Nat.add_comm]; simp [hfj, Flt.sl])
                   exact (HB2.out.cell (cell_lt hck)).trans hck
                 have hmf := HWM.out _ (List.mem_cons_of_mem _ (List.mem_of_getElem? hfj))
                 have hs := hmf.2
                 have HOK := Lib.hid hmf.1
                 have HFJ := Lib.hid hfj
                 have hjz : (j : Int) < (m : Int) := by omega
                 have hsucc := fold_succ hfj f0.srcs
                 have HSU := Lib.hid hsucc
                 clear hfj hmf hsucc
                 go_wp2_with fail
                 refine (sInter _ _ _ _ _ _ _ srcs wr rfl rfl (by omega) (by omega) HA.out (HOK.out.1.below ((HBB.out.trans (HB2.out.mono HBB.out.size)).mono (Nat.le_refl _)))).mono ?_
                 rintro e w6 ⟨⟨a6, c6, rfl, hA6, hf6⟩, hB6⟩
                 have HA6 := Lib.hid hA6
                 have HB6 := Lib.hid hB6
                 clear hA6 hf6 hB6
                 go_wp2_with fail
                 go_roundw
                 case rel =>
                   refine ⟨j + 1, a6, c6, by go_num, by omega, ?_, ?_, HB2.out.trans (HB6.out.mono HB2.out.size)⟩
                   · rw [HSU.out]
                   · rw [HSU.out]; exact HA6.out
                 case measure => simp [intOf]; omega)
            · obtain rfl : j = m := by omega
              have htk : rest.take j = rest := List.take_of_length_le (by rw [HM.out]; exact Nat.le_refl _)
              have HA' := HA.out
              rw [htk] at HA' hlen ⊢
              have HAr := Lib.hid HA'
              clear HA HA' htk
              have hBw := HBB.out.trans (HB2.out.mono HBB.out.size)
              have HR6 : Hid (wr.heap[w.heap.size]? = some (.cells #[.bool false, .slice none 0 0] 37 (0, 0))) := Lib.hid ((HB2.out.block _ (Array.getElem?_eq_some_iff.1 HR5.out).1).trans HR5.out)
              have HBW := Lib.hid hBw
              clear hBw
              go_wp2_with fail
              refine (sMinus _ _ _ _ _ _ _ (mk (wo fs)) wr rfl rfl (by omega) (by omega) HAr.out (HA5.out.below HB2.out)).mono ?_
              rintro e w6 ⟨⟨a6, c6, rfl, hA6, hf6⟩, hB6⟩
              have HF6 := Lib.hid hf6
              obtain ⟨⟨⟨r0, r1⟩, q0, q1⟩, hl, hA', hb'⟩ := fin_filter ((hB6.block _ (Array.getElem?_eq_some_iff.1 HR6.out).1).trans HR6.out) (HBW.out.trans (hB6.mono HBW.out.size)) hA6 true c6
              have HL := Lib.hid hl
              have HA' := Lib.hid hA'
              have HB' := Lib.hid hb'
              clear hl hA' hb' hA6 hf6 hB6
              go_wp2_with fail
              refine ret_cell1 (p := 2) rfl rfl rfl HL.out ?_
              rw [HFL.out]
              exact ⟨⟨a6, c6, rfl, HA'.out, HF6.out⟩, HB'.out⟩
end Go.Proofs.Ytllpmepmgnnoaaa
/- What all laws of the sets ask first: the document's examples. -/
namespace Go.Proofs.Ytllpmepmgnnoaaa
set_option linter.unusedVariables false
open Go.RowKit

theorem sh1 : mk [2] = [2] := by decide +kernel
theorem sh2 : int [1] [2] = [] := by decide +kernel
theorem sh3 : dif [1, 2] [2] = [1] := by decide +kernel
theorem sh4 : dif [1, 2, 3] [2, 4] = [1, 3] := by decide +kernel
theorem as_new (w : World) (xs : List Int) (h : IsA xs) : As (w.alloc (.cells (va xs).toArray 26)) (some ⟨w.heap.size, 0, none⟩) xs := by
  refine ⟨.inr ⟨_, 0, rfl, fun k hk => ?_⟩, h⟩
  have hN := Go.Deep.blk_alloc_new w (.cells (va xs).toArray 26)
  simp only [World.cell?, hN, Nat.zero_add]
  simp [va, List.getD_eq_getElem?_getD, hk]
end Go.Proofs.Ytllpmepmgnnoaaa
/- The law's small functions; arguments that came in. -/
namespace Go.Proofs.Ytllpmepmgnnoaaa
set_option linter.unusedVariables false
open Go.ChangeShapes Go.WideShapes Go.ChangeAt Go.RowKit Go.Deep

theorem own : ownKnob Try.prog.godebug = none := by kernel_rfl
theorem laidOut : laidOutB Try.prog = true := by kernel_rfl
theorem u32_bd {a : Int} (h : (Lit.int .u32 a).wf = true) : 0 ≤ a ∧ a ≤ 4294967295 := by
  have := bounds_u32 h; omega

section
variable {H : Type} {enc : TypeId × Value → H} {w : World} {base : Nat} {held : Bool}
theorem get_field {P : Program} {spare : Nat → Bool} {n : Nat} {fs : Array Field} {l : List Value} {xs : List (DataW H × List MemPlace)}
    (hg : ∀ (i : Nat) (f : Field), fs[i]? = some f → DataW.trod enc P w base spare held n f.type ((l.drop f.offset).take (P.cellsOf f.type)) = xs[i]?) (i : Nat) {f : Field} (off : Nat) (ty : TypeId) (k : Nat) (hf : fs[i]? = some f) (ho : f.offset = off) (ht : f.type = ty) (hk : P.cellsOf ty = k) (hlen : i < xs.length) :
    DataW.trod enc P w base spare held n ty ((l.drop off).take k) = some xs[i] := by
  have := hg i f hf
  rw [ho, ht, hk, List.getElem?_eq_getElem hlen] at this
  exact this
theorem weights_all {P : Program} {e : TypeId} : ∀ {l : List (DataW H)} {d : DataW H}, d ∈ l → ∀ n ∈ d.weights P e, n ∈ DataW.weightsAll P e l
  | d0 :: l, d, hd, n, hn => by
    unfold DataW.weightsAll
    rw [List.mem_append]
    rcases List.mem_cons.1 hd with rfl | hd
    · exact .inl hn
    · exact .inr (weights_all hd n hn)
theorem open_as {fuel : Nat} {c : Value} {y : DataW H × List MemPlace} (h : DataW.trod enc Try.prog w base (fun _ => true) held fuel 27 [c] = some y) (hz : ∀ n ∈ y.1.weights Try.prog 27, n ≤ reachBytes) :
    ∃ a cp xs, c = .slice a (List.length xs) cp ∧ As w a xs ∧ xs.length ≤ 1125899906842624 ∧ (a = none → cp = 0) := by
  rcases open_ints Try.underlying27 Try.underlying26 (by kernel_rfl) h with ⟨hcs, _⟩ | ⟨x, l, cp, zs, hcs, _, hl, hm, hzl, hx, hcell, hwz⟩
  · simp at hcs
    exact ⟨none, 0, [], hcs, As.nil _ _, by simp, fun _ => rfl⟩
  · simp at hcs hzl
    have hlen : (zs.take l).length = l := by rw [List.length_take]; omega
    have hget : ∀ k, k < l → (zs.take l).getD k 0 = zs.getD k 0 := by
      intro k hk
      rw [List.getD_eq_getElem?_getD, List.getD_eq_getElem?_getD, List.getElem?_take_of_lt hk]
    have hby : Try.prog.bytesOf 26 = 4 := by kernel_rfl
    have hw := hz ((l + (zs.length - l)) * 4) (by rw [hx]; simp [DataW.weights, Try.underlying27, lits, hby]; left; omega)
    refine ⟨some x, cp, zs.take l, by rw [hlen]; exact hcs, ⟨?_, ?_⟩, by rw [hlen]; unfold reachBytes at hw; omega, fun e => by cases e⟩
    · by_cases h0 : l = 0
      · subst h0; exact .inl (by simp)
      · obtain ⟨b, off, spot⟩ := x
        have hs : spot = none := by
          have := hcell 0 (by omega)
          simpa [Addr.add] using World.cell?_spot this
        subst hs
        refine .inr ⟨b, off, rfl, fun k hk => ?_⟩
        rw [hlen] at hk
        have := hcell k (by omega)
        rw [hget k hk, ← this, add_flat]
    · intro k hk
      rw [hlen] at hk
      rw [hget k hk]
      have hmem : zs.getD k 0 ∈ zs := by
        rw [List.getD_eq_getElem?_getD, List.getElem?_eq_getElem (by omega)]
        exact List.getElem_mem _
      exact u32_bd (hwz _ hmem)
theorem list_of {α : Type} (R : Nat → α → Prop) : ∀ n : Nat, (∀ i, i < n → ∃ r, R i r) → ∃ l : List α, l.length = n ∧ ∀ k r, l[k]? = some r → R k r
  | 0, _ => ⟨[], rfl, fun k r h => by simp at h⟩
  | n + 1, h => by
    obtain ⟨l, hl, hr⟩ := list_of R n fun i hi => h i (by omega)
    obtain ⟨r, hn⟩ := h n (by omega)
    refine ⟨l ++ [r], by simp [hl], fun k r' hk => ?_⟩
    by_cases h' : k < n
    · rw [List.getElem?_append_left (by omega)] at hk
      exact hr k r' hk
    · rw [List.getElem?_append_right (by omega)] at hk
      have e : k - l.length = 0 := by
        have := (List.getElem?_eq_some_iff.1 hk).1
        simp at this; omega
      rw [e] at hk
      simp at hk
      subst hk
      rwa [show k = n by omega]
set_option maxRecDepth 100000 in
/-- A row of addresses that came in. -/
theorem open_top {r : Reach} {b0 : Nat} {v : Value} {d : DataW H} {p : List MemPlace} (hv : Value.okWide Try.prog w r b0 27 v) (h : DataW.Trod enc Try.prog w base (fun _ => true) held 27 v d p) (hz : ∀ n ∈ d.weights Try.prog 27, n ≤ reachBytes) :
    ∃ (a : Option Addr) (cp : Nat) (xs : List Int), v = .slice a (List.length xs) cp ∧ As w a xs ∧ Flat a (List.length xs) cp ∧ List.length xs ≤ 1125899906842624 := by
  obtain ⟨a0, l0, c0, rfl⟩ := okWide_slice Try.underlying27 hv
  obtain ⟨fuel, hf⟩ := h
  obtain ⟨a, cp, xs, e, ha, hn, hc⟩ := open_as (c := .slice a0 l0 c0) (y := (d, p)) (by simpa [Value.cells] using hf) hz
  cases e
  refine ⟨a0, c0, xs, rfl, ha, ?_, hn⟩
  unfold Value.okWide at hv
  simp only [Try.underlying27] at hv
  unfold Cell.okWide at hv
  simp only [Try.underlying27] at hv
  unfold Cell.ok at hv
  simp only [Try.underlying27] at hv
  match a0, hc, ha, hv with
  | none, hc, ha, hv =>
    refine .inl ⟨rfl, ?_, hc rfl⟩
    rcases ha.1 with e | ⟨_, _, e, _⟩
    · rw [e]; rfl
    · cases e
  | some ⟨b, off, spot⟩, hc, ha, hv =>
    obtain ⟨_, _, _, hs, _⟩ := hv
    simp only at hs
    subst hs
    exact .inr ⟨b, off, rfl⟩
end
end Go.Proofs.Ytllpmepmgnnoaaa
