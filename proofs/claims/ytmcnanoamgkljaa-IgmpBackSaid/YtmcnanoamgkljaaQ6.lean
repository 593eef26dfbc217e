/- The message of bytes, plainly: how a reader goes on. -/
import Derived.Test.YtmcnanoamgkljaaQ0
import Derived.Test.YtmcnanoamgkljaaQ1
import Derived.Test.YtmcnanoamgkljaaQ2
import Derived.Test.YtmcnanoamgkljaaQ3
import Derived.Test.YtmcnanoamgkljaaQ4
import Derived.Test.YtmcnanoamgkljaaQ5
import Derived.BigQuiet
import Derived.Deep.RegionLaw
import Derived.MapKept
import Derived.Deep.DeepCutAuto
import Derived.Deep.RegionHeld3
namespace Go.Proofs.Ytmcnanoamgkljaa
set_option linter.unusedVariables false

/-- What a reader has: what isn't read yet, and whether it ended too early. -/
structure St where
  left : List Int
  short : Bool
def rtake (n : Nat) (s : St) : List Int × St := if s.left.length < n then (List.replicate n 0, ⟨s.left, true⟩) else (s.left.take n, ⟨s.left.drop n, s.short⟩)
def rone (s : St) : Int × St := ((rtake 1 s).1.getD 0 0, (rtake 1 s).2)
def rnum (s : St) : Nat × St := (((rtake 2 s).1.getD 0 0 * 256 + (rtake 2 s).1.getD 1 0).toNat, (rtake 2 s).2)
def raddr (s : St) : Int × St := (ofv (rtake 4 s).1, (rtake 4 s).2)
def raddrs : Nat → St → List Int × St
  | 0, s => ([], s)
  | n + 1, s => if s.short then ([], s) else ((raddr s).1 :: (raddrs n (raddr s).2).1, (raddrs n (raddr s).2).2)
def rrec (s : St) : Rec × St :=
  (⟨(rone s).1, (raddr (rnum (rone (rone s).2).2).2).1, (raddrs (rnum (rone (rone s).2).2).1 (raddr (rnum (rone (rone s).2).2).2).2).1⟩,
    (raddrs (rnum (rone (rone s).2).2).1 (raddr (rnum (rone (rone s).2).2).2).2).2)
def rrecs : Nat → St → List Rec × St
  | 0, s => ([], s)
  | n + 1, s => if s.short then ([], s) else ((rrec s).1 :: (rrecs n (rrec s).2).1, (rrecs n (rrec s).2).2)
theorem raddrs_short (n : Nat) (s : St) (h : s.short = true) : raddrs n s = ([], s) := by
  cases n with
  | zero => rfl
  | succ n => rw [raddrs, if_pos h]
theorem rrecs_short (n : Nat) (s : St) (h : s.short = true) : rrecs n s = ([], s) := by
  cases n with
  | zero => rfl
  | succ n => rw [rrecs, if_pos h]
/-- A reader's end: what is read, what is wrong. -/
structure En where
  st : St
  wrong : Bool
  m : Msg
/-- The empty message. -/
def m0 : Msg := ⟨0, 0, 0, 0, false, 0, 0, [], []⟩
/-- A message with a group. -/
def goGroup (m : Msg) (s : St) : Msg × St := ({ m with grp := (raddr s).1 }, (raddr s).2)
/-- What a query of version 3 has besides. -/
def goBeside (m : Msg) (s : St) : Msg × St :=
  ({ m with rob := (rone s).1 % 8, quiet := decide ((rone s).1 / 8 % 2 = 1), every := (rone (rone s).2).1, srcs := (raddrs (rnum (rone (rone s).2).2).1 (rnum (rone (rone s).2).2).2).1 },
    (raddrs (rnum (rone (rone s).2).2).1 (rnum (rone (rone s).2).2).2).2)
def goQuery (m : Msg) (s : St) : Msg × St :=
  if s.left.length = 4 ∧ m.code = 0 then ({ m with ver := 1 }, (raddr s).2)
  else if 0 < (raddr s).2.left.length then goBeside { m with ver := 3, grp := (raddr s).1 } (raddr s).2
  else ({ m with ver := 2, grp := (raddr s).1 }, (raddr s).2)
def goReport (m : Msg) (s : St) : En :=
  ⟨(rrecs (rnum (rnum s).2).1 (rnum (rnum s).2).2).2, decide ((rnum s).1 ≠ 0), { m with recs := m.recs ++ (rrecs (rnum (rnum s).2).1 (rnum (rnum s).2).2).1 }⟩
/-- How a message goes on. -/
def goOn (m : Msg) (s : St) : En :=
  if m.kind = 17 then ⟨(goQuery m s).2, false, (goQuery m s).1⟩
  else if m.kind = 34 then goReport m s
  else ⟨(goGroup m s).2, false, (goGroup m s).1⟩
def isKind (k : Int) : Bool := decide (k = 17 ∨ k = 18 ∨ k = 22 ∨ k = 23 ∨ k = 34)
/-- The message of bytes, and what is wrong. -/
def endE (e : En) : Int := if e.st.short then 3 else if 0 < e.st.left.length ∨ e.wrong = true ∨ right e.m = false then 2 else 0
def mBegin (xs : List Int) : Msg := { m0 with kind := xs.getD 0 0, code := xs.getD 1 0 }
def decN (xs : List Int) : En := goOn (mBegin xs) ⟨xs.drop 4, false⟩
def decE (xs : List Int) : Int := if xs.length < 8 then 3 else if ofs xs ≠ 0 then 4 else if isKind (xs.getD 0 0) = false then 2 else endE (decN xs)
def decM (xs : List Int) : Msg := if decE xs = 0 then (decN xs).m else m0
theorem rtake_len (n : Nat) (s : St) : (rtake n s).1.length = n := by
  unfold rtake
  split
  · simp
  · simp; omega
theorem rtake_left (n : Nat) (s : St) : (rtake n s).2.left.length ≤ s.left.length := by
  unfold rtake
  split
  · simp
  · simp
theorem rtake_B {n : Nat} {s : St} (h : IsB s.left) : IsB (rtake n s).1 ∧ IsB (rtake n s).2.left := by
  unfold rtake
  split
  · exact ⟨isB_rep n, h⟩
  · exact ⟨isB_take h n, isB_drop h n⟩
theorem rone_B {s : St} (h : IsB s.left) : (0 ≤ (rone s).1 ∧ (rone s).1 ≤ 255) ∧ IsB (rone s).2.left := by
  refine ⟨?_, (rtake_B h).2⟩
  have := (rtake_B (n := 1) h).1 0 (by rw [rtake_len]; omega)
  exact this
theorem rnum_B {s : St} (h : IsB s.left) : (rnum s).1 ≤ 65535 ∧ IsB (rnum s).2.left ∧ ((rnum s).1 : Int) = (rtake 2 s).1.getD 0 0 * 256 + (rtake 2 s).1.getD 1 0 := by
  have h0 := (rtake_B (n := 2) h).1 0 (by rw [rtake_len]; omega)
  have h1 := (rtake_B (n := 2) h).1 1 (by rw [rtake_len]; omega)
  refine ⟨?_, (rtake_B h).2, ?_⟩ <;> unfold rnum <;> simp only <;> omega
theorem ofv4_bd {xs : List Int} (h : IsB xs) (hl : xs.length = 4) : 0 ≤ ofv xs ∧ ofv xs ≤ 4294967295 := by
  match xs, hl with
  | [a, b, c, d], _ =>
    obtain ⟨h0, h⟩ := isB_cons.1 h
    obtain ⟨h1, h⟩ := isB_cons.1 h
    obtain ⟨h2, h⟩ := isB_cons.1 h
    obtain ⟨h3, _⟩ := isB_cons.1 h
    show 0 ≤ ((a * 256 + b) * 256 + c) * 256 + d ∧ ((a * 256 + b) * 256 + c) * 256 + d ≤ 4294967295
    omega
theorem raddr_B {s : St} (h : IsB s.left) : (0 ≤ (raddr s).1 ∧ (raddr s).1 ≤ 4294967295) ∧ IsB (raddr s).2.left :=
  ⟨ofv4_bd (rtake_B h).1 (rtake_len 4 s), (rtake_B h).2⟩
theorem raddrs_B : ∀ (n : Nat) {s : St}, IsB s.left → IsA (raddrs n s).1 ∧ IsB (raddrs n s).2.left ∧ (raddrs n s).1.length ≤ n
  | 0, s, h => ⟨fun k hk => absurd hk (by simp [raddrs]), h, Nat.le_refl _⟩
  | n + 1, s, h => by
    rw [raddrs]
    split
    · exact ⟨fun k hk => absurd hk (by simp), h, by simp⟩
    · have h1 := raddr_B h
      have h2 := raddrs_B n h1.2
      exact ⟨isA_cons.2 ⟨h1.1, h2.1⟩, h2.2.1, by simp; exact h2.2.2⟩
theorem rrec_B {s : St} (h : IsB s.left) : RecOk (rrec s).1 ∧ IsB (rrec s).2.left ∧ (rrec s).1.srcs.length ≤ 65535 := by
  have h1 := rone_B h
  have h2 := rone_B h1.2
  have h3 := rnum_B h2.2
  have h4 := raddr_B h3.2.1
  have h5 := raddrs_B (rnum (rone (rone s).2).2).1 h4.2
  exact ⟨⟨h1.1, h4.1, h5.1⟩, h5.2.1, Nat.le_trans h5.2.2 h3.1⟩
theorem rrecs_B : ∀ (n : Nat) {s : St}, IsB s.left → (∀ r ∈ (rrecs n s).1, RecOk r ∧ r.srcs.length ≤ 65535) ∧ IsB (rrecs n s).2.left ∧ (rrecs n s).1.length ≤ n
  | 0, s, h => ⟨fun r hr => by simp [rrecs] at hr, h, Nat.le_refl _⟩
  | n + 1, s, h => by
    rw [rrecs]
    split
    · exact ⟨fun r hr => by simp at hr, h, by simp⟩
    · have h1 := rrec_B h
      have h2 := rrecs_B n h1.2.1
      refine ⟨fun r hr => ?_, h2.2.1, by simp; exact h2.2.2⟩
      simp only [List.mem_cons] at hr
      rcases hr with rfl | hr
      · exact ⟨h1.1, h1.2.2⟩
      · exact h2.1 r hr
end Go.Proofs.Ytmcnanoamgkljaa
/- The reader's variable; how it takes bytes (igmp.reader.take). -/
namespace Go.Proofs.Ytmcnanoamgkljaa
set_option linter.unusedVariables false
open Go.RowKit

/-- All blocks but R are as they were. -/
structure But1 (R : Nat) (w w' : World) : Prop where
  os : w'.os = w.os
  tape : w'.tape = w.tape
  output : w'.output = w.output
  size : w.heap.size ≤ w'.heap.size
  block : ∀ k, k < w.heap.size → k ≠ R → w'.heap[k]? = w.heap[k]?
namespace But1
variable {R B : Nat} {w w' w2 : World}
theorem refl (R : Nat) (w : World) : But1 R w w := ⟨rfl, rfl, rfl, Nat.le_refl _, fun _ _ _ => rfl⟩
theorem trans (h : But1 R w w') (k : But1 R w' w2) : But1 R w w2 :=
  ⟨k.os.trans h.os, k.tape.trans h.tape, k.output.trans h.output, Nat.le_trans h.size k.size, fun i hi hne => (k.block i (Nat.lt_of_lt_of_le hi h.size) hne).trans (h.block i hi hne)⟩
theorem of_below (h : Below w.heap.size w w') : But1 R w w' := ⟨h.os, h.tape, h.output, h.size, fun i hi _ => h.block i hi⟩
theorem below (h : But1 R w w') (hB : B ≤ R) (hS : B ≤ w.heap.size) : Below B w w' := ⟨h.os, h.tape, h.output, h.size, fun i hi => h.block i (Nat.lt_of_lt_of_le hi hS) (by omega)⟩
theorem set (w : World) (R j : Nat) (v : Value) : But1 R w (w.setCell ⟨R, j, none⟩ v) :=
  ⟨rfl, rfl, rfl, by simp [World.setCell], fun i _ hne => Below.heap_setCell w ⟨R, j, none⟩ v i hne⟩
theorem drewN (h : But1 R w w') (k : Nat) : But1 R w (w'.drewN k) := ⟨h.os, h.tape, h.output, h.size, h.block⟩
theorem cell (h : But1 R w w') {p : Addr} (hp : p.block < w.heap.size) (hne : p.block ≠ R) : w'.cell? p = w.cell? p := World.cell?_of_block (w := w) (h.block p.block hp hne)
end But1
/-- The reader's variable, block R: what isn't read yet lies in block b0. -/
def RdAt (w : World) (R b0 : Nat) (s : St) (c2 c3 c4 c5 c6 c7 c8 c9 c10 c11 : Value) : Prop :=
  ∃ o lc, w.heap[R]? = some (.cells #[.slice (some ⟨b0, o, none⟩) s.left.length lc, .bool s.short, c2, c3, c4, c5, c6, c7, c8, c9, c10, c11] 61 (0, 0)) ∧ s.left.length ≤ lc ∧ b0 < R ∧ ∀ k, k < s.left.length → w.cell? ⟨b0, o + k, none⟩ = some (.int .u8 (s.left.getD k 0))
theorem rd_cells {w : World} {R : Nat} {c0 c1 c2 c3 c4 c5 c6 c7 c8 c9 c10 c11 : Value} {T : TypeId} (h : w.heap[R]? = some (.cells #[c0, c1, c2, c3, c4, c5, c6, c7, c8, c9, c10, c11] T (0, 0))) :
    w.cell? ⟨R, 0, none⟩ = some c0 ∧ w.cell? ⟨R, 1, none⟩ = some c1 ∧ w.cell? ⟨R, 2, none⟩ = some c2 ∧ w.cell? ⟨R, 3, none⟩ = some c3 ∧ w.cell? ⟨R, 4, none⟩ = some c4 ∧ w.cell? ⟨R, 5, none⟩ = some c5 ∧ w.cell? ⟨R, 6, none⟩ = some c6 ∧ w.cell? ⟨R, 7, none⟩ = some c7 ∧ w.cell? ⟨R, 8, none⟩ = some c8 ∧ w.cell? ⟨R, 9, none⟩ = some c9 ∧ w.cell? ⟨R, 10, none⟩ = some c10 ∧ w.cell? ⟨R, 11, none⟩ = some c11 ∧ ∀ j, w.frozen? ⟨R, j, none⟩ = false := by
  refine ⟨?_, ?_, ?_, ?_, ?_, ?_, ?_, ?_, ?_, ?_, ?_, ?_, fun j => ?_⟩
  case refine_13 => simp [World.frozen?, h]
  all_goals simp [World.cell?, h]
theorem set_cells {w : World} {R j : Nat} {cs : Array Value} {T : TypeId} {v : Value} (h : w.heap[R]? = some (.cells cs T (0, 0))) : (w.setCell ⟨R, j, none⟩ v).heap[R]? = some (.cells (cs.setIfInBounds j v) T (0, 0)) := by
  simp [World.setCell, Array.getElem?_modify, h]
/-- New memory. -/
theorem RdAt.below {w w' : World} {R b0 : Nat} {s : St} {c2 c3 c4 c5 c6 c7 c8 c9 c10 c11 : Value} (h : RdAt w R b0 s c2 c3 c4 c5 c6 c7 c8 c9 c10 c11) (hb : Below w.heap.size w w') : RdAt w' R b0 s c2 c3 c4 c5 c6 c7 c8 c9 c10 c11 := by
  obtain ⟨o, lc, h1, h2, h3, h4⟩ := h
  have hR : R < w.heap.size := (Array.getElem?_eq_some_iff.1 h1).1
  refine ⟨o, lc, (hb.block R hR).trans h1, h2, h3, fun k hk => ?_⟩
  rw [hb.cell (p := ⟨b0, o + k, none⟩) (by show b0 < _; omega)]
  exact h4 k hk
theorem RdAt.lt {w : World} {R b0 : Nat} {s : St} {c2 c3 c4 c5 c6 c7 c8 c9 c10 c11 : Value} (h : RdAt w R b0 s c2 c3 c4 c5 c6 c7 c8 c9 c10 c11) : R < w.heap.size := by
  obtain ⟨o, lc, h1, _⟩ := h
  exact (Array.getElem?_eq_some_iff.1 h1).1
theorem getD_drop2 (xs : List Int) (k j : Nat) : (xs.drop k).getD j 0 = xs.getD (k + j) 0 := by
  rw [List.getD_eq_getElem?_getD, List.getElem?_drop, ← List.getD_eq_getElem?_getD]
theorem getD_take2 {xs : List Int} {k j : Nat} (h : j < k) : (xs.take k).getD j 0 = xs.getD j 0 := by
  rw [List.getD_eq_getElem?_getD, List.getElem?_take_of_lt h, ← List.getD_eq_getElem?_getD]
theorem bs_made (w : World) (n : Nat) : Bs (w.alloc (.cells (madeCells #[.int .u8 0] n) 5)) (some ⟨w.heap.size, 0, none⟩) (List.replicate n 0) := (Ob.made w n).bs (isB_rep n)
theorem bs_made' (w : World) (R j : Nat) (v : Value) (n : Nat) : Bs ((w.setCell ⟨R, j, none⟩ v).alloc (.cells (madeCells #[.int .u8 0] n) 5)) (some ⟨w.heap.size, 0, none⟩) (List.replicate n 0) := by
  have := bs_made (w.setCell ⟨R, j, none⟩ v) n
  rwa [show (w.setCell ⟨R, j, none⟩ v).heap.size = w.heap.size by simp [World.setCell]] at this

set_option maxHeartbeats 1000000 in
theorem gTake1 (R b0 : Nat) (s : St) (c2 c3 c4 c5 c6 c7 c8 c9 c10 c11 : Value) (w : World) (h : RdAt w R b0 s c2 c3 c4 c5 c6 c7 c8 c9 c10 c11) (hB : IsB s.left) (hl : s.left.length ≤ 1000000) :
    Calls Try.prog 69 #[.pointer (some ⟨R, 0, none⟩), .int .i64 1] w fun e w' => ∃ a c, e = .returned (.slice a 1 c) ∧ Bs w' a (rtake 1 s).1 ∧ RdAt w' R b0 (rtake 1 s).2 c2 c3 c4 c5 c6 c7 c8 c9 c10 c11 ∧ But1 R w w' := by
  have hR := h.lt
  obtain ⟨o, lc, h1, h2, h3, h4⟩ := h
  obtain ⟨l, sh⟩ := s
  simp only at h1 h2 h4 hB hl
  obtain ⟨r0, r1, _, _, _, _, _, _, _, _, _, _, rf⟩ := rd_cells h1
  have f0 := rf 0
  have f1 := rf 1
  obtain ⟨m, hm⟩ : ∃ m, m = l.length := ⟨_, rfl⟩
  have HM := Lib.hid hm
  rw [← hm] at h1 h2 hl r0
  have H1 := Lib.hid h1
  have H4 := Lib.hid h4
  have HB := Lib.hid hB
  clear rf h1 h4 hB hm
  by_cases hlt : m < 1
  · have E : Hid (rtake 1 ⟨l, sh⟩ = (List.replicate 1 0, ⟨l, true⟩)) := Lib.hid (by unfold rtake; rw [if_pos (by simp only; have := HM.out; omega)])
    have hmk := run_make_row' (P := Try.prog) 30 5 (.int .u8 0) 1 Try.underlying30 info8 rfl .i64 .i64 1 (by omega) (by omega)
    rw [show ((1 : Nat) : Int) = 1 from rfl] at hmk
    go_enter Try.func69, Try.ntmps69
    go_wp2
    go_ret
    rw [E.out]
    refine ⟨_, _, rfl, bs_made' w R 1 (.bool true) 1, ?_, (But1.set w R 1 _).trans (But1.of_below (bel1 _ _))⟩
    have k1 := set_cells (j := 1) (v := .bool true) H1.out
    refine RdAt.below ?_ (bel1 _ _)
    refine ⟨o, lc, by rw [← HM.out]; exact k1, by simp only; rw [← HM.out]; exact h2, h3, fun k hk => ?_⟩
    rw [(But1.set w R 1 (.bool true)).cell (p := ⟨b0, o + k, none⟩) (by show b0 < _; omega) (by show b0 ≠ R; omega)]
    exact H4.out k hk
  · have E : Hid (rtake 1 ⟨l, sh⟩ = (l.take 1, ⟨l.drop 1, sh⟩)) := Lib.hid (by unfold rtake; rw [if_neg (by simp only; have := HM.out; omega)])
    have q1 : (0 : Int) ≤ (m : Int) := by omega
    have q2 : ¬ ((m : Int) < 1) := by omega
    have q3 : 1 ≤ lc := by omega
    have q4 : (1 : Int) ≤ (lc : Int) := by omega
    have q5 : (1 : Int) ≤ (m : Int) := by omega
    have hcell : ∀ v k, (w.setCell ⟨R, 0, none⟩ v).cell? ⟨b0, k, none⟩ = w.cell? ⟨b0, k, none⟩ := fun v k => (But1.set w R 0 v).cell (p := ⟨b0, k, none⟩) (by show b0 < _; omega) (by show b0 ≠ R; omega)
    have HC := Lib.hid hcell
    clear hcell
    have HBS : Hid (∀ v, Bs (w.setCell ⟨R, 0, none⟩ v) (some ⟨b0, o, none⟩) (l.take 1)) := Lib.hid (by
      intro v
      refine ⟨.inr ⟨b0, o, rfl, fun k hk => ?_⟩, isB_take HB.out 1⟩
      rw [List.length_take] at hk
      rw [HC.out, getD_take2 (by omega)]
      exact H4.out k (by omega))
    by_cases hc : lc = 1
    · subst hc
      obtain rfl : m = 1 := by omega
      have R0 : Hid (RdAt (w.setCell ⟨R, 0, none⟩ (.slice (some ⟨b0, o, none⟩) 0 0)) R b0 ⟨l.drop 1, sh⟩ c2 c3 c4 c5 c6 c7 c8 c9 c10 c11) := Lib.hid (by
        have e : (⟨l.drop 1, sh⟩ : St).left.length = 0 := by show (l.drop 1).length = 0; rw [List.length_drop, ← HM.out]
        refine ⟨o, 0, ?_, by rw [e]; omega, h3, fun k hk => ?_⟩
        · have k0 := set_cells (j := 0) (v := .slice (some ⟨b0, o, none⟩) 0 0) H1.out
          rw [e]
          exact k0
        · rw [e] at hk; omega)
      go_enter Try.func69, Try.ntmps69
      go_wp2
      go_ret
      rw [E.out]
      exact ⟨some ⟨b0, o, none⟩, ⟨_, rfl⟩, HBS.out _, R0.out, But1.set w R 0 _⟩
    · have R0 : Hid (RdAt (w.setCell ⟨R, 0, none⟩ (.slice (some ⟨b0, o + 1, none⟩) (m - 1) (lc - 1))) R b0 ⟨l.drop 1, sh⟩ c2 c3 c4 c5 c6 c7 c8 c9 c10 c11) := Lib.hid (by
        have e : (⟨l.drop 1, sh⟩ : St).left.length = m - 1 := by show (l.drop 1).length = m - 1; rw [HM.out]; exact List.length_drop
        refine ⟨o + 1, lc - 1, ?_, by rw [e]; omega, h3, fun k hk => ?_⟩
        · have k0 := set_cells (j := 0) (v := .slice (some ⟨b0, o + 1, none⟩) (m - 1) (lc - 1)) H1.out
          rw [e]
          exact k0
        · rw [e] at hk
          rw [HC.out, getD_drop2, Nat.add_assoc]
          exact H4.out (1 + k) (by have := HM.out; omega))
      go_enter Try.func69, Try.ntmps69
      go_wp2
      go_ret
      rw [E.out]
      exact ⟨some ⟨b0, o, none⟩, ⟨_, rfl⟩, HBS.out _, R0.out, But1.set w R 0 _⟩

set_option maxHeartbeats 1000000 in
theorem gTake2 (R b0 : Nat) (s : St) (c2 c3 c4 c5 c6 c7 c8 c9 c10 c11 : Value) (w : World) (h : RdAt w R b0 s c2 c3 c4 c5 c6 c7 c8 c9 c10 c11) (hB : IsB s.left) (hl : s.left.length ≤ 1000000) :
    Calls Try.prog 69 #[.pointer (some ⟨R, 0, none⟩), .int .i64 2] w fun e w' => ∃ a c, e = .returned (.slice a 2 c) ∧ Bs w' a (rtake 2 s).1 ∧ RdAt w' R b0 (rtake 2 s).2 c2 c3 c4 c5 c6 c7 c8 c9 c10 c11 ∧ But1 R w w' := by
  have hR := h.lt
  obtain ⟨o, lc, h1, h2, h3, h4⟩ := h
  obtain ⟨l, sh⟩ := s
  simp only at h1 h2 h4 hB hl
  obtain ⟨r0, r1, _, _, _, _, _, _, _, _, _, _, rf⟩ := rd_cells h1
  have f0 := rf 0
  have f1 := rf 1
  obtain ⟨m, hm⟩ : ∃ m, m = l.length := ⟨_, rfl⟩
  have HM := Lib.hid hm
  rw [← hm] at h1 h2 hl r0
  have H1 := Lib.hid h1
  have H4 := Lib.hid h4
  have HB := Lib.hid hB
  clear rf h1 h4 hB hm
  by_cases hlt : m < 2
  · have E : Hid (rtake 2 ⟨l, sh⟩ = (List.replicate 2 0, ⟨l, true⟩)) := Lib.hid (by unfold rtake; rw [if_pos (by simp only; have := HM.out; omega)])
    have hmk := run_make_row' (P := Try.prog) 30 5 (.int .u8 0) 1 Try.underlying30 info8 rfl .i64 .i64 2 (by omega) (by omega)
    rw [show ((2 : Nat) : Int) = 2 from rfl] at hmk
    go_enter Try.func69, Try.ntmps69
    go_wp2
    go_ret
    rw [E.out]
    refine ⟨_, _, rfl, bs_made' w R 1 (.bool true) 2, ?_, (But1.set w R 1 _).trans (But1.of_below (bel1 _ _))⟩
    have k1 := set_cells (j := 1) (v := .bool true) H1.out
    refine RdAt.below ?_ (bel1 _ _)
    refine ⟨o, lc, by rw [← HM.out]; exact k1, by simp only; rw [← HM.out]; exact h2, h3, fun k hk => ?_⟩
    rw [(But1.set w R 1 (.bool true)).cell (p := ⟨b0, o + k, none⟩) (by show b0 < _; omega) (by show b0 ≠ R; omega)]
    exact H4.out k hk
  · have E : Hid (rtake 2 ⟨l, sh⟩ = (l.take 2, ⟨l.drop 2, sh⟩)) := Lib.hid (by unfold rtake; rw [if_neg (by simp only; have := HM.out; omega)])
    have q1 : (0 : Int) ≤ (m : Int) := by omega
    have q2 : ¬ ((m : Int) < 2) := by omega
    have q3 : 2 ≤ lc := by omega
    have q4 : (2 : Int) ≤ (lc : Int) := by omega
    have q5 : (2 : Int) ≤ (m : Int) := by omega
    have hcell : ∀ v k, (w.setCell ⟨R, 0, none⟩ v).cell? ⟨b0, k, none⟩ = w.cell? ⟨b0, k, none⟩ := fun v k => (But1.set w R 0 v).cell (p := ⟨b0, k, none⟩) (by show b0 < _; omega) (by show b0 ≠ R; omega)
    have HC := Lib.hid hcell
    clear hcell
    have HBS : Hid (∀ v, Bs (w.setCell ⟨R, 0, none⟩ v) (some ⟨b0, o, none⟩) (l.take 2)) := Lib.hid (by
      intro v
      refine ⟨.inr ⟨b0, o, rfl, fun k hk => ?_⟩, isB_take HB.out 2⟩
      rw [List.length_take] at hk
      rw [HC.out, getD_take2 (by omega)]
      exact H4.out k (by omega))
    by_cases hc : lc = 2
    · subst hc
      obtain rfl : m = 2 := by omega
      have R0 : Hid (RdAt (w.setCell ⟨R, 0, none⟩ (.slice (some ⟨b0, o, none⟩) 0 0)) R b0 ⟨l.drop 2, sh⟩ c2 c3 c4 c5 c6 c7 c8 c9 c10 c11) := Lib.hid (by
        have e : (⟨l.drop 2, sh⟩ : St).left.length = 0 := by show (l.drop 2).length = 0; rw [List.length_drop, ← HM.out]
        refine ⟨o, 0, ?_, by rw [e]; omega, h3, fun k hk => ?_⟩
        · have k0 := set_cells (j := 0) (v := .slice (some ⟨b0, o, none⟩) 0 0) H1.out
          rw [e]
          exact k0
        · rw [e] at hk; omega)
      go_enter Try.func69, Try.ntmps69
      go_wp2
      go_ret
      rw [E.out]
      exact ⟨some ⟨b0, o, none⟩, ⟨_, rfl⟩, HBS.out _, R0.out, But1.set w R 0 _⟩
    · have R0 : Hid (RdAt (w.setCell ⟨R, 0, none⟩ (.slice (some ⟨b0, o + 2, none⟩) (m - 2) (lc - 2))) R b0 ⟨l.drop 2, sh⟩ c2 c3 c4 c5 c6 c7 c8 c9 c10 c11) := Lib.hid (by
        have e : (⟨l.drop 2, sh⟩ : St).left.length = m - 2 := by show (l.drop 2).length = m - 2; rw [HM.out]; exact List.length_drop
        refine ⟨o + 2, lc - 2, ?_, by rw [e]; omega, h3, fun k hk => ?_⟩
        · have k0 := set_cells (j := 0) (v := .slice (some ⟨b0, o + 2, none⟩) (m - 2) (lc - 2)) H1.out
          rw [e]
          exact k0
        · rw [e] at hk
          rw [HC.out, getD_drop2, Nat.add_assoc]
          exact H4.out (2 + k) (by have := HM.out; omega))
      go_enter Try.func69, Try.ntmps69
      go_wp2
      go_ret
      rw [E.out]
      exact ⟨some ⟨b0, o, none⟩, ⟨_, rfl⟩, HBS.out _, R0.out, But1.set w R 0 _⟩

set_option maxHeartbeats 1000000 in
theorem gTake4 (R b0 : Nat) (s : St) (c2 c3 c4 c5 c6 c7 c8 c9 c10 c11 : Value) (w : World) (h : RdAt w R b0 s c2 c3 c4 c5 c6 c7 c8 c9 c10 c11) (hB : IsB s.left) (hl : s.left.length ≤ 1000000) :
    Calls Try.prog 69 #[.pointer (some ⟨R, 0, none⟩), .int .i64 4] w fun e w' => ∃ a c, e = .returned (.slice a 4 c) ∧ Bs w' a (rtake 4 s).1 ∧ RdAt w' R b0 (rtake 4 s).2 c2 c3 c4 c5 c6 c7 c8 c9 c10 c11 ∧ But1 R w w' := by
  have hR := h.lt
  obtain ⟨o, lc, h1, h2, h3, h4⟩ := h
  obtain ⟨l, sh⟩ := s
  simp only at h1 h2 h4 hB hl
  obtain ⟨r0, r1, _, _, _, _, _, _, _, _, _, _, rf⟩ := rd_cells h1
  have f0 := rf 0
  have f1 := rf 1
  obtain ⟨m, hm⟩ : ∃ m, m = l.length := ⟨_, rfl⟩
  have HM := Lib.hid hm
  rw [← hm] at h1 h2 hl r0
  have H1 := Lib.hid h1
  have H4 := Lib.hid h4
  have HB := Lib.hid hB
  clear rf h1 h4 hB hm
  by_cases hlt : m < 4
  · have E : Hid (rtake 4 ⟨l, sh⟩ = (List.replicate 4 0, ⟨l, true⟩)) := Lib.hid (by unfold rtake; rw [if_pos (by simp only; have := HM.out; omega)])
    have hmk := run_make_row' (P := Try.prog) 30 5 (.int .u8 0) 1 Try.underlying30 info8 rfl .i64 .i64 4 (by omega) (by omega)
    rw [show ((4 : Nat) : Int) = 4 from rfl] at hmk
    go_enter Try.func69, Try.ntmps69
    go_wp2
    go_ret
    rw [E.out]
    refine ⟨_, _, rfl, bs_made' w R 1 (.bool true) 4, ?_, (But1.set w R 1 _).trans (But1.of_below (bel1 _ _))⟩
    have k1 := set_cells (j := 1) (v := .bool true) H1.out
    refine RdAt.below ?_ (bel1 _ _)
    refine ⟨o, lc, by rw [← HM.out]; exact k1, by simp only; rw [← HM.out]; exact h2, h3, fun k hk => ?_⟩
    rw [(But1.set w R 1 (.bool true)).cell (p := ⟨b0, o + k, none⟩) (by show b0 < _; omega) (by show b0 ≠ R; omega)]
    exact H4.out k hk
  · have E : Hid (rtake 4 ⟨l, sh⟩ = (l.take 4, ⟨l.drop 4, sh⟩)) := Lib.hid (by unfold rtake; rw [if_neg (by simp only; have := HM.out; omega)])
    have q1 : (0 : Int) ≤ (m : Int) := by omega
    have q2 : ¬ ((m : Int) < 4) := by omega
    have q3 : 4 ≤ lc := by omega
    have q4 : (4 : Int) ≤ (lc : Int) := by omega
    have q5 : (4 : Int) ≤ (m : Int) := by omega
    have hcell : ∀ v k, (w.setCell ⟨R, 0, none⟩ v).cell? ⟨b0, k, none⟩ = w.cell? ⟨b0, k, none⟩ := fun v k => (But1.set w R 0 v).cell (p := ⟨b0, k, none⟩) (by show b0 < _; omega) (by show b0 ≠ R; omega)
    have HC := Lib.hid hcell
    clear hcell
    have HBS : Hid (∀ v, Bs (w.setCell ⟨R, 0, none⟩ v) (some ⟨b0, o, none⟩) (l.take 4)) := Lib.hid (by
      intro v
      refine ⟨.inr ⟨b0, o, rfl, fun k hk => ?_⟩, isB_take HB.out 4⟩
      rw [List.length_take] at hk
      rw [HC.out, getD_take2 (by omega)]
      exact H4.out k (by omega))
    by_cases hc : lc = 4
    · subst hc
      obtain rfl : m = 4 := by omega
      have R0 : Hid (RdAt (w.setCell ⟨R, 0, none⟩ (.slice (some ⟨b0, o, none⟩) 0 0)) R b0 ⟨l.drop 4, sh⟩ c2 c3 c4 c5 c6 c7 c8 c9 c10 c11) := Lib.hid (by
        have e : (⟨l.drop 4, sh⟩ : St).left.length = 0 := by show (l.drop 4).length = 0; rw [List.length_drop, ← HM.out]
        refine ⟨o, 0, ?_, by rw [e]; omega, h3, fun k hk => ?_⟩
        · have k0 := set_cells (j := 0) (v := .slice (some ⟨b0, o, none⟩) 0 0) H1.out
          rw [e]
          exact k0
        · rw [e] at hk; omega)
      go_enter Try.func69, Try.ntmps69
      go_wp2
      go_ret
      rw [E.out]
      exact ⟨some ⟨b0, o, none⟩, ⟨_, rfl⟩, HBS.out _, R0.out, But1.set w R 0 _⟩
    · have R0 : Hid (RdAt (w.setCell ⟨R, 0, none⟩ (.slice (some ⟨b0, o + 4, none⟩) (m - 4) (lc - 4))) R b0 ⟨l.drop 4, sh⟩ c2 c3 c4 c5 c6 c7 c8 c9 c10 c11) := Lib.hid (by
        have e : (⟨l.drop 4, sh⟩ : St).left.length = m - 4 := by show (l.drop 4).length = m - 4; rw [HM.out]; exact List.length_drop
        refine ⟨o + 4, lc - 4, ?_, by rw [e]; omega, h3, fun k hk => ?_⟩
        · have k0 := set_cells (j := 0) (v := .slice (some ⟨b0, o + 4, none⟩) (m - 4) (lc - 4)) H1.out
          rw [e]
          exact k0
        · rw [e] at hk
          rw [HC.out, getD_drop2, Nat.add_assoc]
          exact H4.out (4 + k) (by have := HM.out; omega))
      go_enter Try.func69, Try.ntmps69
      go_wp2
      go_ret
      rw [E.out]
      exact ⟨some ⟨b0, o, none⟩, ⟨_, rfl⟩, HBS.out _, R0.out, But1.set w R 0 _⟩
end Go.Proofs.Ytmcnanoamgkljaa
/- How the reader reads a byte, a number, an address, many of them. -/
namespace Go.Proofs.Ytmcnanoamgkljaa
set_option linter.unusedVariables false
open Go.RowKit

theorem bs_at1 {w : World} {a : Option Addr} {xs : List Int} (h : Bs w a xs) (hp : 0 < xs.length) : ∃ b off, a = some ⟨b, off, none⟩ ∧ ∀ k, k < xs.length → w.cell? ⟨b, off + k, none⟩ = some (.int .u8 (xs.getD k 0)) := by
  rcases h.1 with rfl | h
  · simp at hp
  · exact h
theorem or_hl64 {x y : Int} (h1 : 0 ≤ x ∧ x ≤ 255) (h2 : 0 ≤ y ∧ y ≤ 255) : bits .or .i64 (x * 256) y = x * 256 + y :=
  bits_join .i64 16 (by decide) (fun n h0 h1 => by simp [IntKind.wrap, IntKind.bits, IntKind.signed]; omega) 8 (x * 256) y (by omega) (by omega) (by omega) (by omega) (by omega) (by omega)

set_option maxHeartbeats 1000000 in
theorem gOne (R b0 : Nat) (s : St) (c2 c3 c4 c5 c6 c7 c8 c9 c10 c11 : Value) (w : World) (h : RdAt w R b0 s c2 c3 c4 c5 c6 c7 c8 c9 c10 c11) (hB : IsB s.left) (hl : s.left.length ≤ 1000000) :
    Calls Try.prog 70 #[.pointer (some ⟨R, 0, none⟩)] w fun e w' => e = .returned (.int .u8 (rone s).1) ∧ RdAt w' R b0 (rone s).2 c2 c3 c4 c5 c6 c7 c8 c9 c10 c11 ∧ But1 R w w' := by
  have H := Lib.hid h
  have HB := Lib.hid hB
  have HL := Lib.hid hl
  clear h hB hl
  go_enter Try.func70, Try.ntmps70
  go_wp2_with (go_at_call 69; refine (gTake1 R b0 s c2 c3 c4 c5 c6 c7 c8 c9 c10 c11 _ H.out HB.out HL.out).mono ?_; rintro e w1 ⟨a, c, rfl, hbs, hrd, hbt⟩; obtain ⟨b, off, rfl, hc⟩ := bs_at1 hbs (by rw [rtake_len]; omega); have d0 : w1.cell? ⟨b, off, none⟩ = some (.int .u8 (rone s).1) := hc 0 (by rw [rtake_len]; omega); have HRD := Lib.hid hrd; have HBT := Lib.hid hbt; clear hbs hrd hbt hc)
  go_ret
  exact ⟨rfl, HRD.out, HBT.out⟩

set_option maxHeartbeats 1000000 in
theorem gNumber (R b0 : Nat) (s : St) (c2 c3 c4 c5 c6 c7 c8 c9 c10 c11 : Value) (w : World) (h : RdAt w R b0 s c2 c3 c4 c5 c6 c7 c8 c9 c10 c11) (hB : IsB s.left) (hl : s.left.length ≤ 1000000) :
    Calls Try.prog 65 #[.pointer (some ⟨R, 0, none⟩)] w fun e w' => e = .returned (.int .i64 ((rnum s).1 : Nat)) ∧ RdAt w' R b0 (rnum s).2 c2 c3 c4 c5 c6 c7 c8 c9 c10 c11 ∧ But1 R w w' := by
  have H := Lib.hid h
  have HB := Lib.hid hB
  have HL := Lib.hid hl
  have hn := (rnum_B hB).2.2
  have hx := (rtake_B (n := 2) hB).1 0 (by rw [rtake_len]; omega)
  have hy := (rtake_B (n := 2) hB).1 1 (by rw [rtake_len]; omega)
  obtain ⟨x, ex⟩ : ∃ x, x = (rtake 2 s).1.getD 0 0 := ⟨_, rfl⟩
  obtain ⟨y, ey⟩ : ∃ y, y = (rtake 2 s).1.getD 1 0 := ⟨_, rfl⟩
  rw [← ex] at hx hn
  rw [← ey] at hy hn
  have EX := Lib.hid ex
  have EY := Lib.hid ey
  have HN := Lib.hid hn
  have hor := or_hl64 hx hy
  obtain ⟨x0, x1⟩ := hx
  obtain ⟨y0, y1⟩ := hy
  clear h hB hl ex ey hn
  go_enter Try.func65, Try.ntmps65
  go_wp2_with (go_at_call 69; refine (gTake2 R b0 s c2 c3 c4 c5 c6 c7 c8 c9 c10 c11 _ H.out HB.out HL.out).mono ?_; rintro e w1 ⟨a, c, rfl, hbs, hrd, hbt⟩; obtain ⟨b, off, rfl, hc⟩ := bs_at1 hbs (by rw [rtake_len]; omega); have d0 : w1.cell? ⟨b, off, none⟩ = some (.int .u8 x) := (by rw [EX.out]; exact hc 0 (by rw [rtake_len]; omega)); have d1 : w1.cell? ⟨b, off + 1, none⟩ = some (.int .u8 y) := (by rw [EY.out]; exact hc 1 (by rw [rtake_len]; omega)); have HRD := Lib.hid hrd; have HBT := Lib.hid hbt; clear hbs hrd hbt hc)
  go_quiet (fail)
  go_wp2
  go_ret
  refine ⟨by rw [HN.out]; rfl, ?_, ?_⟩
  · exact HRD.out
  · exact HBT.out.drewN _

set_option maxHeartbeats 1000000 in
theorem gAddr (R b0 : Nat) (s : St) (c2 c3 c4 c5 c6 c7 c8 c9 c10 c11 : Value) (w : World) (h : RdAt w R b0 s c2 c3 c4 c5 c6 c7 c8 c9 c10 c11) (hB : IsB s.left) (hl : s.left.length ≤ 1000000) :
    Calls Try.prog 63 #[.pointer (some ⟨R, 0, none⟩)] w fun e w' => e = .returned (.int .u32 (raddr s).1) ∧ RdAt w' R b0 (raddr s).2 c2 c3 c4 c5 c6 c7 c8 c9 c10 c11 ∧ But1 R w w' := by
  have H := Lib.hid h
  have HB := Lib.hid hB
  have HL := Lib.hid hl
  clear h hB hl
  go_enter Try.func63, Try.ntmps63
  go_wp2_with (first
    | (go_at_call 69; refine (gTake4 R b0 s c2 c3 c4 c5 c6 c7 c8 c9 c10 c11 _ H.out HB.out HL.out).mono ?_; rintro e w1 ⟨a, c, rfl, hbs, hrd, hbt⟩; have HRD := Lib.hid hrd; have HBT := Lib.hid hbt; have HBS := Lib.hid hbs; clear hbs hrd hbt)
    | (go_at_call 68; refine (aOf a 4 c (rtake 4 s).1 _ (rtake_len 4 s) (by omega) HBS.out).mono ?_; rintro e w2 ⟨rfl, rfl⟩))
  go_ret
  exact ⟨rfl, HRD.out, HBT.out⟩

theorem own_ge' {w : World} {B n size : Nat} {e : TypeId} {v : Value} {l : List Value} (h : w.ownsRow B e size v n l) : ∀ k, v.ownBlock = some k → B ≤ k := by
  intro k hk
  rcases h.2 with ⟨rfl, _⟩ | ⟨g, cap, cur, rfl, hB, _⟩
  · simp [Value.ownBlock] at hk
  · simp [Value.ownBlock] at hk
    omega
/-- append(own, one), whatever the element; what else there is stays as it was. -/
theorem wp_app_one {w : World} {o : Oper} {a : Act} {K : Act → World → Prop} {Q : Exit → Act → World → Prop} (t e : TypeId) (i0 : TypeInfo) (zv : Value) (size bytes : Nat) (hu : Try.prog.underlying t = some (.slice e)) (hi : Try.prog.info? e = some i0)
    (hz0 : i0.zero = some zv) (hz1 : i0.size = size) (hz2 : i0.bytes = bytes) (hzs : zv.cells.size = size) (hsz : 0 < size) (hby : bytes ≤ 1000) (s x : Operand)
    (ho : o.op = .call { callee := .builtin .append, args := #[s, x], argTypes := #[t, t] }) (B : Nat) (a1 : Option Addr) (n cap : Nat) (xs : List Value) (hs : a.eval s = .slice a1 n cap) (hown : w.ownsRow B e size (.slice a1 n cap) n xs)
    (ad : Addr) (c : Nat) (news : List Value) (hx : a.eval x = .slice (some ad) 1 c) (hl : news.length = 1 * size) (hnews : ∀ j u, news[j]? = some u → w.cell? (ad.add j) = some u) (h1 : ∀ u ∈ news, u.oneCell' = true) (hn : n ≤ 1000000) (hB : B ≤ w.heap.size)
    (h : ∀ a' cap' w', Hid (w'.ownsRow B e size (.slice a' (n + 1) cap') (n + 1) (xs ++ news)) → Hid (Below B w w') → Hid (∀ q, q < w.heap.size → a1 ≠ some ⟨q, 0, none⟩ → w'.heap[q]? = w.heap[q]? ∧ a' ≠ some ⟨q, 0, none⟩) → K (a.put o.dst (.slice a' (n + 1) cap')) w') : o.wp Try.prog a w K Q := by
  obtain ⟨v', w', hrun, hown', hgrow, _, hpl⟩ := run_append_own_at (P := Try.prog) w B t o.type e i0 zv size bytes hu hi hz0 hz1 hz2 hzs hsz _ n xs hown ad 1 c news hl hnews h1 (by unfold maxLen; omega) (by have : (n + 1) * bytes ≤ 1000001 * 1000 := Nat.mul_le_mul (by omega) hby; omega) hB
  unfold Oper.wp execOp
  simp only [ho, resolve, invoke, builtin, Sem.run_bind, Sem.run_pure, Result.andThen_ok, List.map_toArray, List.map_cons, List.map_nil, hs, hx, hrun]
  have hbel' : Below B w w' := (Below.refl B w).grown hgrow hB (own_ge' hown)
  have hst : ∀ q, q < w.heap.size → a1 ≠ some ⟨q, 0, none⟩ → w'.heap[q]? = w.heap[q]? ∧ v'.ownBlock ≠ some q := by
    intro q hq hne
    have h1 : (Value.slice a1 n cap).ownBlock ≠ some q := by
      rcases hown.2 with ⟨e, _⟩ | ⟨g, c', cur, e, _⟩
      · rw [e]; simp [Value.ownBlock]
      · rw [e]; simp only [Value.slice.injEq] at e
        obtain ⟨rfl, _⟩ := e
        simp only [Value.ownBlock]
        intro e2; simp at e2; subst e2; exact hne rfl
    refine ⟨hgrow.block q hq (fun e => h1 e.symm), ?_⟩
    rcases hpl with e | e
    · rw [e]; exact h1
    · rw [e]; simp; omega
  rcases hown'.2 with ⟨rfl, e0⟩ | ⟨g, cap', cur, rfl, _⟩
  · omega
  · exact h _ cap' w' hown' hbel' (fun q hq hne => ⟨(hst q hq hne).1, fun e => (hst q hq hne).2 (by simp at e; simp [Value.ownBlock, e])⟩)
theorem wpList_app_one {w : World} {ops : Array Oper} {rest : List Oper} {o : Oper} {a : Act} {Q : Exit → Act → World → Prop} (hgd : o.guard = none) (t e : TypeId) (i0 : TypeInfo) (zv : Value) (size bytes : Nat) (hu : Try.prog.underlying t = some (.slice e)) (hi : Try.prog.info? e = some i0)
    (hz0 : i0.zero = some zv) (hz1 : i0.size = size) (hz2 : i0.bytes = bytes) (hzs : zv.cells.size = size) (hsz : 0 < size) (hby : bytes ≤ 1000) (s x : Operand)
    (ho : o.op = .call { callee := .builtin .append, args := #[s, x], argTypes := #[t, t] }) (B : Nat) (a1 : Option Addr) (n cap : Nat) (xs : List Value) (hs : a.eval s = .slice a1 n cap) (hown : w.ownsRow B e size (.slice a1 n cap) n xs)
    (ad : Addr) (c : Nat) (news : List Value) (hx : a.eval x = .slice (some ad) 1 c) (hl : news.length = 1 * size) (hnews : ∀ j u, news[j]? = some u → w.cell? (ad.add j) = some u) (h1 : ∀ u ∈ news, u.oneCell' = true) (hn : n ≤ 1000000) (hB : B ≤ w.heap.size)
    (h : ∀ a' cap' w', Hid (w'.ownsRow B e size (.slice a' (n + 1) cap') (n + 1) (xs ++ news)) → Hid (Below B w w') → Hid (∀ q, q < w.heap.size → a1 ≠ some ⟨q, 0, none⟩ → w'.heap[q]? = w.heap[q]? ∧ a' ≠ some ⟨q, 0, none⟩) → wpList Try.prog ops Q rest (a.put o.dst (.slice a' (n + 1) cap')) w') : wpList Try.prog ops Q (o :: rest) a w :=
  wpList_plain hgd fun _ hK => wp_app_one t e i0 zv size bytes hu hi hz0 hz1 hz2 hzs hsz hby s x ho B a1 n cap xs hs hown ad c news hx hl hnews h1 hn hB fun a' cap' w' h1 h2 h3 => hK _ _ (h a' cap' w' h1 h2 h3)
theorem step_app_one {w : World} {ops : Array Oper} {o : Oper} {a : Act} {K : Act → World → Prop} {Q : Exit → Act → World → Prop} {E : Prop} (hgd : o.guard = none) (t e : TypeId) (i0 : TypeInfo) (zv : Value) (size bytes : Nat) (hu : Try.prog.underlying t = some (.slice e)) (hi : Try.prog.info? e = some i0)
    (hz0 : i0.zero = some zv) (hz1 : i0.size = size) (hz2 : i0.bytes = bytes) (hzs : zv.cells.size = size) (hsz : 0 < size) (hby : bytes ≤ 1000) (s x : Operand)
    (ho : o.op = .call { callee := .builtin .append, args := #[s, x], argTypes := #[t, t] }) (B : Nat) (a1 : Option Addr) (n cap : Nat) (xs : List Value) (hs : a.eval s = .slice a1 n cap) (hown : w.ownsRow B e size (.slice a1 n cap) n xs)
    (ad : Addr) (c : Nat) (news : List Value) (hx : a.eval x = .slice (some ad) 1 c) (hl : news.length = 1 * size) (hnews : ∀ j u, news[j]? = some u → w.cell? (ad.add j) = some u) (h1 : ∀ u ∈ news, u.oneCell' = true) (hn : n ≤ 1000000) (hB : B ≤ w.heap.size)
    (h : ∀ a' cap' w', Hid (w'.ownsRow B e size (.slice a' (n + 1) cap') (n + 1) (xs ++ news)) → Hid (Below B w w') → Hid (∀ q, q < w.heap.size → a1 ≠ some ⟨q, 0, none⟩ → w'.heap[q]? = w.heap[q]? ∧ a' ≠ some ⟨q, 0, none⟩) → K (a.put o.dst (.slice a' (n + 1) cap')) w') :
    if Region.wanted o (yielded ops a.tmps) = true then Oper.wp Try.prog o a w K Q else E := by
  have hw : Region.wanted o (yielded ops a.tmps) = true := by simp [Region.wanted, hgd]
  rw [if_pos hw]
  exact wp_app_one t e i0 zv size bytes hu hi hz0 hz1 hz2 hzs hsz hby s x ho B a1 n cap xs hs hown ad c news hx hl hnews h1 hn hB h
theorem one32 (x : Int) : ∀ u ∈ [Value.int .u32 x], u.oneCell' = true := by
  intro u hu
  simp at hu
  subst hu
  rfl
theorem news_new (w : World) (cs : List Value) (T : TypeId) : ∀ j u, cs[j]? = some u → (w.alloc (.cells cs.toArray T)).cell? ((⟨w.heap.size, 0, none⟩ : Addr).add j) = some u := by
  intro j u hu
  rw [add_flat, Nat.zero_add, cell_new]
  simpa using hu
theorem infoA : (Try.prog.info? 23).map (fun i => (i.zero, i.size, i.bytes)) = some (some (.int .u32 0), 1, 4) := by kernel_rfl
def va (xs : List Int) : List Value := xs.map (Value.int .u32)
theorem va_snoc (xs : List Int) (x : Int) : va (xs ++ [x]) = va xs ++ [.int .u32 x] := by simp [va]
theorem own_nil (w : World) (B : Nat) (e : TypeId) (size : Nat) : w.ownsRow B e size (.slice none 0 0) 0 [] := World.ownsRow_nil _ _ _ _
/-- Addresses in a block of the call's own. -/
def AsO (w : World) (B : Nat) (a : Option Addr) (xs : List Int) : Prop :=
  xs = [] ∨ ∃ g cur, a = some ⟨g, 0, none⟩ ∧ B ≤ g ∧ w.heap[g]? = some (.cells cur 23 (0, 0)) ∧ ∀ k, k < xs.length → cur[k]? = some (.int .u32 (xs.getD k 0))
theorem AsO.of {w : World} {B n cap : Nat} {a : Option Addr} {xs : List Int} (hn : xs.length = n) (h : w.ownsRow B 23 1 (.slice a n cap) n (va xs)) : AsO w B a xs := by
  by_cases h0 : n = 0
  · subst h0
    exact .inl (List.eq_nil_of_length_eq_zero hn)
  obtain ⟨hl, h⟩ := h
  rcases h with ⟨_, e⟩ | ⟨g, cap, cur, e, hB, hg, hnc, _, hsz, htk⟩
  · omega
  · simp at e
    refine .inr ⟨g, cur, e.1, hB, hg, fun i hi => ?_⟩
    have h1 : (cur.toList.take (n * 1))[i]? = some (.int .u32 (xs.getD i 0)) := by rw [htk]; simp [va, hi]
    rw [List.getElem?_take_of_lt (by omega)] at h1
    simpa using h1
theorem AsO.as {w : World} {B : Nat} {a : Option Addr} {xs : List Int} (h : AsO w B a xs) (hb : IsA xs) : As w a xs := by
  refine ⟨?_, hb⟩
  rcases h with h | ⟨g, cur, e, _, hg, hc⟩
  · exact .inl h
  · exact .inr ⟨g, 0, e, fun k hk => by rw [Nat.zero_add]; simp [World.cell?, hg, hc k hk]⟩
theorem AsO.keep {w w' : World} {B : Nat} {a : Option Addr} {xs : List Int} (h : AsO w B a xs) (hk : ∀ g cur, B ≤ g → w.heap[g]? = some (.cells cur 23 (0, 0)) → w'.heap[g]? = w.heap[g]?) : AsO w' B a xs := by
  rcases h with h | ⟨g, cur, e, hB, hg, hc⟩
  · exact .inl h
  · exact .inr ⟨g, cur, e, hB, (hk g cur hB hg).trans hg, hc⟩
theorem AsO.below {w w' : World} {B : Nat} {a : Option Addr} {xs : List Int} (h : AsO w B a xs) (hb : Below w.heap.size w w') : AsO w' B a xs := h.keep fun g cur _ hg => hb.block g (Array.getElem?_eq_some_iff.1 hg).1
theorem AsO.but {w w' : World} {B R : Nat} {a : Option Addr} {xs : List Int} (h : AsO w B a xs) (hb : But1 R w w') (hR : R < B) : AsO w' B a xs := h.keep fun g cur hB hg => hb.block g (Array.getElem?_eq_some_iff.1 hg).1 (by omega)
theorem AsO.mono {w : World} {B C : Nat} {a : Option Addr} {xs : List Int} (h : AsO w B a xs) (hC : C ≤ B) : AsO w C a xs := by
  rcases h with h | ⟨g, cur, e, hB, hg, hc⟩
  · exact .inl h
  · exact .inr ⟨g, cur, e, by omega, hg, hc⟩

theorem own_but {w w' : World} {B R n size : Nat} {e : TypeId} {v : Value} {xs : List Value} (h : w.ownsRow B e size v n xs) (hb : But1 R w w') (hR : R < B) : w'.ownsRow B e size v n xs := by
  refine ⟨h.1, ?_⟩
  rcases h.2 with e | ⟨g, c, cur, e, h1, h2, h3⟩
  · exact .inl e
  · exact .inr ⟨g, c, cur, e, h1, (hb.block g (Array.getElem?_eq_some_iff.1 h2).1 (by omega)).trans h2, h3⟩
/-- What lies below stays. -/
theorem RdAt.low {w w' : World} {R b0 B : Nat} {s : St} {c2 c3 c4 c5 c6 c7 c8 c9 c10 c11 : Value} (h : RdAt w R b0 s c2 c3 c4 c5 c6 c7 c8 c9 c10 c11) (hb : Below B w w') (hR : R < B) : RdAt w' R b0 s c2 c3 c4 c5 c6 c7 c8 c9 c10 c11 := by
  obtain ⟨o, lc, h1, h2, h3, h4⟩ := h
  refine ⟨o, lc, (hb.block R hR).trans h1, h2, h3, fun k hk => ?_⟩
  rw [hb.cell (p := ⟨b0, o + k, none⟩) (by show b0 < _; omega)]
  exact h4 k hk
theorem But1.low {w w1 w2 : World} {R : Nat} (h : But1 R w w1) (hb : Below w.heap.size w1 w2) (hs : w.heap.size ≤ w1.heap.size) (hR : R < w.heap.size) : But1 R w w2 :=
  ⟨hb.os.trans h.os, hb.tape.trans h.tape, hb.output.trans h.output, Nat.le_trans hs hb.size, fun k hk hne => (hb.block k hk).trans (h.block k hk hne)⟩
set_option maxHeartbeats 2000000 in
theorem gAddrs (N : Nat) (R b0 : Nat) (s : St) (c2 c3 c4 c5 c6 c7 c8 c9 c10 c11 : Value) (w : World) (h : RdAt w R b0 s c2 c3 c4 c5 c6 c7 c8 c9 c10 c11) (hB : IsB s.left) (hl : s.left.length ≤ 1000000) (hN : N ≤ 65535) :
    Calls Try.prog 71 #[.pointer (some ⟨R, 0, none⟩), .int .i64 N] w fun e w' => ∃ a c, e = .returned (.slice a (raddrs N s).1.length c) ∧ AsO w' w.heap.size a (raddrs N s).1 ∧ RdAt w' R b0 (raddrs N s).2 c2 c3 c4 c5 c6 c7 c8 c9 c10 c11 ∧ But1 R w w' := by
  have H := Lib.hid h
  have HB := Lib.hid hB
  have HL := Lib.hid hl
  have HR := Lib.hid h.lt
  obtain ⟨i0, hi0, hz0, hz1, hz2⟩ := info_parts infoA
  have HI := Lib.hid hi0
  have HZ := Lib.hid hz0
  have HZ1 := Lib.hid hz1
  have HZ2 := Lib.hid hz2
  clear h hB hl hi0 hz0 hz1 hz2
  go_enter Try.func71, Try.ntmps71
  go_wp2
  go_loopw [1, 5] (fun nv b wr => ∃ (j : Nat) (t : St) (l : List Int) (a' : Option Addr) (cap' : Nat), nv = .int .i64 j ∧ b = .slice a' l.length cap' ∧ l.length + j ≤ N ∧ wr.ownsRow w.heap.size 23 1 (.slice a' l.length cap') l.length (va l) ∧ RdAt wr R b0 t c2 c3 c4 c5 c6 c7 c8 c9 c10 c11 ∧ But1 R w wr ∧
    raddrs N s = (l ++ (raddrs j t).1, (raddrs j t).2) ∧ IsB t.left ∧ t.left.length ≤ 1000000) (fun nv _ _ => (intOf nv).toNat)
  case atStart => exact ⟨N, s, [], none, 0, rfl, rfl, by simp, own_nil _ _ _ _, H.out, But1.refl _ _, by simp, HB.out, HL.out⟩
  case round =>
    obtain ⟨j, t, l, a1, cap1, rfl, rfl, hlj, hown, hrd, hbt, hR, hB, hl⟩ := hrel
    have HO := Lib.hid hown
    have HRD := Lib.hid hrd
    have HBT := Lib.hid hbt
    have HREQ := Lib.hid hR
    have HB1 := Lib.hid hB
    have HL1 := Lib.hid hl
    obtain ⟨o, lc, hh, _, _, _⟩ := hrd
    obtain ⟨r0, r1, _⟩ := rd_cells hh
    clear hown hbt hR hB hl hh
    by_cases hj : j = 0
    · subst hj
      go_wp2
      go_ret
      rw [show raddrs N s = (l, t) from HREQ.out.trans (by simp [raddrs])]
      first | exact ⟨a1, _, rfl, AsO.of rfl HO.out, HRD.out, HBT.out⟩ | exact ⟨a1, ⟨_, rfl⟩, AsO.of rfl HO.out, HRD.out, HBT.out⟩
    obtain ⟨tl, ts⟩ := t
    have j0 : (j : Int) > 0 := by omega
    cases ts with
    | true =>
      go_wp2
      go_ret
      rw [show raddrs N s = (l, ⟨tl, true⟩) from HREQ.out.trans (by rw [raddrs_short _ _ rfl]; simp)]
      first | exact ⟨a1, _, rfl, AsO.of rfl HO.out, HRD.out, HBT.out⟩ | exact ⟨a1, ⟨_, rfl⟩, AsO.of rfl HO.out, HRD.out, HBT.out⟩
    | false =>
      obtain ⟨j, rfl⟩ : ∃ i, j = i + 1 := ⟨j - 1, by omega⟩
      have E : Hid (raddrs N s = (l ++ [(raddr ⟨tl, false⟩).1] ++ (raddrs j (raddr ⟨tl, false⟩).2).1, (raddrs j (raddr ⟨tl, false⟩).2).2)) := Lib.hid (HREQ.out.trans (by rw [raddrs]; simp))
      have BB := Lib.hid (raddr_B HB1.out)
      have LL : Hid ((raddr ⟨tl, false⟩).2.left.length ≤ 1000000) := Lib.hid (Nat.le_trans (rtake_left 4 _) HL1.out)
      go_wp2_with (first
        | (go_at_call 63; refine (gAddr R b0 ⟨tl, false⟩ c2 c3 c4 c5 c6 c7 c8 c9 c10 c11 _ HRD.out HB1.out HL1.out).mono ?_; rintro e w1 ⟨rfl, hrd1, hbt1⟩; have HRD1 := Lib.hid hrd1; have HBT1 := Lib.hid (HBT.out.trans hbt1); have HO1 : Hid (w1.ownsRow w.heap.size 23 1 (.slice a1 l.length cap1) l.length (va l)) := Lib.hid (own_but HO.out hbt1 HR.out); clear hrd1 hbt1)
        | ((with_reducible refine wpList_app_one rfl 24 23 i0 (.int .u32 0) 1 4 Try.underlying24 HI.out HZ.out HZ1.out HZ2.out rfl (by decide) (by decide) (.tmp 17) (.tmp 20) rfl w.heap.size a1 l.length cap1 (va l) rfl (HO1.out.alloc _) ⟨w1.heap.size, 0, none⟩ 1 [.int .u32 (raddr ⟨tl, false⟩).1] rfl rfl (news_new w1 _ _) (one32 _) (by omega) (Nat.le_trans HBT1.out.size (bel1 _ _).size) ?_); intro a2 cap2 w2 how2 hb2 hst2))
      go_roundw
      case rel =>
        have hl' : (l ++ [(raddr ⟨tl, false⟩).1]).length = l.length + 1 := by simp
        refine ⟨j, (raddr ⟨tl, false⟩).2, l ++ [(raddr ⟨tl, false⟩).1], a2, cap2, by go_num, by rw [hl'], by rw [hl']; omega, by rw [hl', va_snoc]; exact how2.out, ?_, ?_, E.out, BB.out.2, LL.out⟩
        · exact (HRD1.out.below (bel1 _ _)).low hb2.out HR.out
        · exact (HBT1.out.trans (But1.of_below (bel1 _ _))).low hb2.out (Nat.le_trans HBT1.out.size (bel1 _ _).size) HR.out
      case measure => simp [intOf]
end Go.Proofs.Ytmcnanoamgkljaa
/- How a message with a group goes on; what a query of version 3 has besides; how a query goes on. -/
namespace Go.Proofs.Ytmcnanoamgkljaa
set_option linter.unusedVariables false
open Go.RowKit

theorem but_set (w : World) (R j : Nat) (v : Value) : But1 R w (w.setCell ⟨R, j, none⟩ v) := But1.set w R j v
theorem rdSet2 {w : World} {R b0 : Nat} {s : St} {c2 c3 c4 c5 c6 c7 c8 c9 c10 c11 : Value} (h : RdAt w R b0 s c2 c3 c4 c5 c6 c7 c8 c9 c10 c11) (v : Value) : RdAt (w.setCell ⟨R, 2, none⟩ v) R b0 s v c3 c4 c5 c6 c7 c8 c9 c10 c11 := by
  have hR := h.lt
  obtain ⟨o, lc, h1, h2, h3, h4⟩ := h
  refine ⟨o, lc, set_cells (j := 2) (v := v) h1, h2, h3, fun k hk => ?_⟩
  rw [(But1.set w R 2 v).cell (p := ⟨b0, o + k, none⟩) (by show b0 < _; omega) (by show b0 ≠ R; omega)]
  exact h4 k hk
theorem rdSet3 {w : World} {R b0 : Nat} {s : St} {c2 c3 c4 c5 c6 c7 c8 c9 c10 c11 : Value} (h : RdAt w R b0 s c2 c3 c4 c5 c6 c7 c8 c9 c10 c11) (v : Value) : RdAt (w.setCell ⟨R, 3, none⟩ v) R b0 s c2 v c4 c5 c6 c7 c8 c9 c10 c11 := by
  have hR := h.lt
  obtain ⟨o, lc, h1, h2, h3, h4⟩ := h
  refine ⟨o, lc, set_cells (j := 3) (v := v) h1, h2, h3, fun k hk => ?_⟩
  rw [(But1.set w R 3 v).cell (p := ⟨b0, o + k, none⟩) (by show b0 < _; omega) (by show b0 ≠ R; omega)]
  exact h4 k hk
theorem rdSet4 {w : World} {R b0 : Nat} {s : St} {c2 c3 c4 c5 c6 c7 c8 c9 c10 c11 : Value} (h : RdAt w R b0 s c2 c3 c4 c5 c6 c7 c8 c9 c10 c11) (v : Value) : RdAt (w.setCell ⟨R, 4, none⟩ v) R b0 s c2 c3 v c5 c6 c7 c8 c9 c10 c11 := by
  have hR := h.lt
  obtain ⟨o, lc, h1, h2, h3, h4⟩ := h
  refine ⟨o, lc, set_cells (j := 4) (v := v) h1, h2, h3, fun k hk => ?_⟩
  rw [(But1.set w R 4 v).cell (p := ⟨b0, o + k, none⟩) (by show b0 < _; omega) (by show b0 ≠ R; omega)]
  exact h4 k hk
theorem rdSet5 {w : World} {R b0 : Nat} {s : St} {c2 c3 c4 c5 c6 c7 c8 c9 c10 c11 : Value} (h : RdAt w R b0 s c2 c3 c4 c5 c6 c7 c8 c9 c10 c11) (v : Value) : RdAt (w.setCell ⟨R, 5, none⟩ v) R b0 s c2 c3 c4 v c6 c7 c8 c9 c10 c11 := by
  have hR := h.lt
  obtain ⟨o, lc, h1, h2, h3, h4⟩ := h
  refine ⟨o, lc, set_cells (j := 5) (v := v) h1, h2, h3, fun k hk => ?_⟩
  rw [(But1.set w R 5 v).cell (p := ⟨b0, o + k, none⟩) (by show b0 < _; omega) (by show b0 ≠ R; omega)]
  exact h4 k hk
theorem rdSet6 {w : World} {R b0 : Nat} {s : St} {c2 c3 c4 c5 c6 c7 c8 c9 c10 c11 : Value} (h : RdAt w R b0 s c2 c3 c4 c5 c6 c7 c8 c9 c10 c11) (v : Value) : RdAt (w.setCell ⟨R, 6, none⟩ v) R b0 s c2 c3 c4 c5 v c7 c8 c9 c10 c11 := by
  have hR := h.lt
  obtain ⟨o, lc, h1, h2, h3, h4⟩ := h
  refine ⟨o, lc, set_cells (j := 6) (v := v) h1, h2, h3, fun k hk => ?_⟩
  rw [(But1.set w R 6 v).cell (p := ⟨b0, o + k, none⟩) (by show b0 < _; omega) (by show b0 ≠ R; omega)]
  exact h4 k hk
theorem rdSet7 {w : World} {R b0 : Nat} {s : St} {c2 c3 c4 c5 c6 c7 c8 c9 c10 c11 : Value} (h : RdAt w R b0 s c2 c3 c4 c5 c6 c7 c8 c9 c10 c11) (v : Value) : RdAt (w.setCell ⟨R, 7, none⟩ v) R b0 s c2 c3 c4 c5 c6 v c8 c9 c10 c11 := by
  have hR := h.lt
  obtain ⟨o, lc, h1, h2, h3, h4⟩ := h
  refine ⟨o, lc, set_cells (j := 7) (v := v) h1, h2, h3, fun k hk => ?_⟩
  rw [(But1.set w R 7 v).cell (p := ⟨b0, o + k, none⟩) (by show b0 < _; omega) (by show b0 ≠ R; omega)]
  exact h4 k hk
theorem rdSet8 {w : World} {R b0 : Nat} {s : St} {c2 c3 c4 c5 c6 c7 c8 c9 c10 c11 : Value} (h : RdAt w R b0 s c2 c3 c4 c5 c6 c7 c8 c9 c10 c11) (v : Value) : RdAt (w.setCell ⟨R, 8, none⟩ v) R b0 s c2 c3 c4 c5 c6 c7 v c9 c10 c11 := by
  have hR := h.lt
  obtain ⟨o, lc, h1, h2, h3, h4⟩ := h
  refine ⟨o, lc, set_cells (j := 8) (v := v) h1, h2, h3, fun k hk => ?_⟩
  rw [(But1.set w R 8 v).cell (p := ⟨b0, o + k, none⟩) (by show b0 < _; omega) (by show b0 ≠ R; omega)]
  exact h4 k hk
theorem rdSet9 {w : World} {R b0 : Nat} {s : St} {c2 c3 c4 c5 c6 c7 c8 c9 c10 c11 : Value} (h : RdAt w R b0 s c2 c3 c4 c5 c6 c7 c8 c9 c10 c11) (v : Value) : RdAt (w.setCell ⟨R, 9, none⟩ v) R b0 s c2 c3 c4 c5 c6 c7 c8 v c10 c11 := by
  have hR := h.lt
  obtain ⟨o, lc, h1, h2, h3, h4⟩ := h
  refine ⟨o, lc, set_cells (j := 9) (v := v) h1, h2, h3, fun k hk => ?_⟩
  rw [(But1.set w R 9 v).cell (p := ⟨b0, o + k, none⟩) (by show b0 < _; omega) (by show b0 ≠ R; omega)]
  exact h4 k hk
theorem rdSet10 {w : World} {R b0 : Nat} {s : St} {c2 c3 c4 c5 c6 c7 c8 c9 c10 c11 : Value} (h : RdAt w R b0 s c2 c3 c4 c5 c6 c7 c8 c9 c10 c11) (v : Value) : RdAt (w.setCell ⟨R, 10, none⟩ v) R b0 s c2 c3 c4 c5 c6 c7 c8 c9 v c11 := by
  have hR := h.lt
  obtain ⟨o, lc, h1, h2, h3, h4⟩ := h
  refine ⟨o, lc, set_cells (j := 10) (v := v) h1, h2, h3, fun k hk => ?_⟩
  rw [(But1.set w R 10 v).cell (p := ⟨b0, o + k, none⟩) (by show b0 < _; omega) (by show b0 ≠ R; omega)]
  exact h4 k hk
theorem rdSet11 {w : World} {R b0 : Nat} {s : St} {c2 c3 c4 c5 c6 c7 c8 c9 c10 c11 : Value} (h : RdAt w R b0 s c2 c3 c4 c5 c6 c7 c8 c9 c10 c11) (v : Value) : RdAt (w.setCell ⟨R, 11, none⟩ v) R b0 s c2 c3 c4 c5 c6 c7 c8 c9 c10 v := by
  have hR := h.lt
  obtain ⟨o, lc, h1, h2, h3, h4⟩ := h
  refine ⟨o, lc, set_cells (j := 11) (v := v) h1, h2, h3, fun k hk => ?_⟩
  rw [(But1.set w R 11 v).cell (p := ⟨b0, o + k, none⟩) (by show b0 < _; omega) (by show b0 ≠ R; omega)]
  exact h4 k hk
/-- The cells of a reader's variable. -/
theorem RdAt.cs {w : World} {R b0 : Nat} {s : St} {c2 c3 c4 c5 c6 c7 c8 c9 c10 c11 : Value} (h : RdAt w R b0 s c2 c3 c4 c5 c6 c7 c8 c9 c10 c11) :
    (∃ o lc, w.cell? ⟨R, 0, none⟩ = some (.slice (some ⟨b0, o, none⟩) s.left.length lc)) ∧ w.cell? ⟨R, 1, none⟩ = some (.bool s.short) ∧ w.cell? ⟨R, 2, none⟩ = some c2 ∧ w.cell? ⟨R, 3, none⟩ = some c3 ∧ w.cell? ⟨R, 4, none⟩ = some c4 ∧ w.cell? ⟨R, 5, none⟩ = some c5 ∧ w.cell? ⟨R, 6, none⟩ = some c6 ∧ w.cell? ⟨R, 7, none⟩ = some c7 ∧ w.cell? ⟨R, 8, none⟩ = some c8 ∧ w.cell? ⟨R, 9, none⟩ = some c9 ∧ w.cell? ⟨R, 10, none⟩ = some c10 ∧ w.cell? ⟨R, 11, none⟩ = some c11 ∧ ∀ j, w.frozen? ⟨R, j, none⟩ = false := by
  obtain ⟨o, lc, h1, _⟩ := h
  obtain ⟨r0, r⟩ := rd_cells h1
  exact ⟨⟨o, lc, r0⟩, r⟩

set_option maxHeartbeats 1000000 in
theorem gGroup (R b0 : Nat) (s : St) (c2 c3 c4 c5 c6 c7 c8 c9 c10 c11 : Value) (w : World) (h : RdAt w R b0 s c2 c3 c4 c5 c6 c7 c8 c9 c10 c11) (hB : IsB s.left) (hl : s.left.length ≤ 1000000) :
    Calls Try.prog 56 #[.pointer (some ⟨R, 0, none⟩)] w fun e w' => e = .returned (.tuple #[]) ∧ RdAt w' R b0 (raddr s).2 c2 c3 c4 c5 (.int .u32 (raddr s).1) c7 c8 c9 c10 c11 ∧ But1 R w w' := by
  have H := Lib.hid h
  have HB := Lib.hid hB
  have HL := Lib.hid hl
  clear h hB hl
  go_enter Try.func56, Try.ntmps56
  go_wp2_with (go_at_call 63; refine (gAddr R b0 s c2 c3 c4 c5 c6 c7 c8 c9 c10 c11 _ H.out HB.out HL.out).mono ?_; rintro e w1 ⟨rfl, hrd, hbt⟩; obtain ⟨-, -, -, -, -, -, d6, -, -, -, -, -, df⟩ := hrd.cs; have f6 := df 6; have HRD := Lib.hid (rdSet6 hrd (.int .u32 (raddr s).1)); have HBT := Lib.hid (hbt.trans (but_set w1 R 6 (.int .u32 (raddr s).1))); clear hrd hbt df)
  go_end0
  exact ⟨rfl, HRD.out, HBT.out⟩
theorem and8 {x : Int} (h : 0 ≤ x ∧ x ≤ 255) : (bits .and .u8 x 8 != 0) = decide (x / 8 % 2 = 1) := by
  obtain ⟨n, rfl⟩ := Int.eq_ofNat_of_zero_le h.1
  have hn : n < 256 := by omega
  rw [show (8 : Int) = ((8 : Nat) : Int) from rfl, u8_and_nat n 8 hn (by decide)]
  have key : ∀ a : Fin 256, ((((a.1 &&& 8 : Nat) : Int) != 0) = decide (((a.1 : Nat) : Int) / ((8 : Nat) : Int) % 2 = 1)) := by decide +kernel
  exact key ⟨n, hn⟩

set_option maxHeartbeats 2000000 in
theorem gBesideR (R b0 : Nat) (s : St) (c2 c3 c4 c5 c6 c7 c8 c9 c10 c11 : Value) (w : World) (h : RdAt w R b0 s c2 c3 c4 c5 c6 c7 c8 c9 c10 c11) (hB : IsB s.left) (hl : s.left.length ≤ 1000000) :
    Calls Try.prog 64 #[.pointer (some ⟨R, 0, none⟩)] w fun e w' => ∃ a c, e = .returned (.tuple #[]) ∧ AsO w' w.heap.size a (raddrs (rnum (rone (rone s).2).2).1 (rnum (rone (rone s).2).2).2).1 ∧
      RdAt w' R b0 (raddrs (rnum (rone (rone s).2).2).1 (rnum (rone (rone s).2).2).2).2 c2 c3 c4 c5 c6 (.bool (decide ((rone s).1 / 8 % 2 = 1))) (.int .u8 ((rone s).1 % 8)) (.int .u8 (rone (rone s).2).1) (.slice a (raddrs (rnum (rone (rone s).2).2).1 (rnum (rone (rone s).2).2).2).1.length c) c11 ∧ But1 R w w' := by
  have H := Lib.hid h
  have HR := Lib.hid h.lt
  have h1 := rone_B hB
  have h2 := rone_B h1.2
  have h3 := rnum_B h2.2
  have l1 : (rone s).2.left.length ≤ 1000000 := Nat.le_trans (rtake_left 1 _) hl
  have l2 : (rone (rone s).2).2.left.length ≤ 1000000 := Nat.le_trans (rtake_left 1 _) l1
  have l3 : (rnum (rone (rone s).2).2).2.left.length ≤ 1000000 := Nat.le_trans (rtake_left 2 _) l2
  have A8 := Lib.hid (and8 h1.1)
  obtain ⟨⟨x0, x1⟩, b1⟩ := h1
  have B2 := Lib.hid h2.2
  have B3 := Lib.hid h3.2.1
  have N3 := Lib.hid h3.1
  have B1 := Lib.hid b1
  have HB := Lib.hid hB
  have HL := Lib.hid hl
  have L1 := Lib.hid l1
  have L2 := Lib.hid l2
  have L3 := Lib.hid l3
  clear h hB hl h2 h3 l1 l2 l3 b1
  go_enter Try.func64, Try.ntmps64
  go_wp2_with fail
  refine (gOne R b0 s c2 c3 c4 c5 c6 c7 c8 c9 c10 c11 _ H.out HB.out HL.out).mono ?_
  rintro e w1 ⟨rfl, hrd, hbt⟩
  obtain ⟨-, -, -, -, -, -, -, d7, d8, -, -, -, df⟩ := hrd.cs
  have f7 := df 7
  have f8 := df 8
  have HRD := Lib.hid (rdSet7 (rdSet8 hrd (.int .u8 ((rone s).1 % 8))) (.bool (decide ((rone s).1 / 8 % 2 = 1))))
  have HBT := Lib.hid ((hbt.trans (but_set w1 R 8 (.int .u8 ((rone s).1 % 8)))).trans (but_set _ R 7 (.bool (decide ((rone s).1 / 8 % 2 = 1)))))
  clear hrd hbt df
  go_wp2_with fail
  rw [A8.out]
  refine (gOne R b0 (rone s).2 c2 c3 c4 c5 c6 (.bool (decide ((rone s).1 / 8 % 2 = 1))) (.int .u8 ((rone s).1 % 8)) c9 c10 c11 _ HRD.out B1.out L1.out).mono ?_
  rintro e w2 ⟨rfl, hrd, hbt⟩
  obtain ⟨-, -, -, -, -, -, -, -, -, d9, -, -, df⟩ := hrd.cs
  have f9 := df 9
  have HRD2 := Lib.hid (rdSet9 hrd (.int .u8 (rone (rone s).2).1))
  have HBT2 := Lib.hid ((HBT.out.trans hbt).trans (but_set w2 R 9 (.int .u8 (rone (rone s).2).1)))
  clear hrd hbt df d7 d8 f7 f8
  go_wp2_with fail
  refine (gNumber R b0 (rone (rone s).2).2 c2 c3 c4 c5 c6 (.bool (decide ((rone s).1 / 8 % 2 = 1))) (.int .u8 ((rone s).1 % 8)) (.int .u8 (rone (rone s).2).1) c10 c11 _ HRD2.out B2.out L2.out).mono ?_
  rintro e w3 ⟨rfl, hrd, hbt⟩
  have HRD3 := Lib.hid hrd
  have HBT3 := Lib.hid (HBT2.out.trans hbt)
  clear hrd hbt d9 f9
  go_wp2_with fail
  refine (gAddrs (rnum (rone (rone s).2).2).1 R b0 (rnum (rone (rone s).2).2).2 c2 c3 c4 c5 c6 (.bool (decide ((rone s).1 / 8 % 2 = 1))) (.int .u8 ((rone s).1 % 8)) (.int .u8 (rone (rone s).2).1) c10 c11 _ HRD3.out B3.out L3.out N3.out).mono ?_
  rintro e w4 ⟨a, c, rfl, has, hrd, hbt⟩
  obtain ⟨-, -, -, -, -, -, -, -, -, -, d10, -, df⟩ := hrd.cs
  have f10 := df 10
  have HAS := Lib.hid has
  have HLT := Lib.hid (Nat.lt_of_lt_of_le HR.out HBT3.out.size)
  have HRD4 := Lib.hid (rdSet10 hrd (.slice a (raddrs (rnum (rone (rone s).2).2).1 (rnum (rone (rone s).2).2).2).1.length c))
  have HBT4 := Lib.hid ((HBT3.out.trans hbt).trans (but_set w4 R 10 (.slice a (raddrs (rnum (rone (rone s).2).2).1 (rnum (rone (rone s).2).2).2).1.length c)))
  clear hrd hbt has df
  go_wp2
  go_end0
  exact ⟨a, c, rfl, (HAS.out.but (but_set w4 R 10 _) HLT.out).mono HBT3.out.size, HRD4.out, HBT4.out⟩

set_option maxHeartbeats 2000000 in
theorem gQuery1 (R b0 : Nat) (s : St) (c2 c10 c11 : Value) (kind ver code grp rob ev : Int) (q : Bool) (w : World) (h : RdAt w R b0 s c2 (.int .u8 kind) (.int .i64 ver) (.int .u8 code) (.int .u32 grp) (.bool q) (.int .u8 rob) (.int .u8 ev) c10 c11) (hB : IsB s.left) (hl : s.left.length ≤ 1000000) (h4 : s.left.length = 4) (hc : code = 0) :
    Calls Try.prog 55 #[.pointer (some ⟨R, 0, none⟩)] w fun e w' => e = .returned (.tuple #[]) ∧ RdAt w' R b0 (raddr s).2 c2 (.int .u8 kind) (.int .i64 1) (.int .u8 code) (.int .u32 grp) (.bool q) (.int .u8 rob) (.int .u8 ev) c10 c11 ∧ But1 R w w' := by
  have H := Lib.hid h
  have HB := Lib.hid hB
  have HL := Lib.hid hl
  subst hc
  obtain ⟨⟨o, lc, d0⟩, -, -, -, d4, d5, -, -, -, -, -, -, df⟩ := h.cs
  rw [h4] at d0
  have f4 := df 4
  have HRD := Lib.hid (rdSet4 h (.int .i64 1))
  clear h hB hl df h4
  go_enter Try.func55, Try.ntmps55
  go_wp2_with fail
  refine (gAddr R b0 s c2 (.int .u8 kind) (.int .i64 1) (.int .u8 0) (.int .u32 grp) (.bool q) (.int .u8 rob) (.int .u8 ev) c10 c11 _ HRD.out HB.out HL.out).mono ?_
  rintro e w1 ⟨rfl, hrd, hbt⟩
  have HRD1 := Lib.hid hrd
  have HBT := Lib.hid ((but_set w R 4 (.int .i64 1)).trans hbt)
  clear hrd hbt
  go_wp2
  (first | go_end0 | ((try simp only [Exit.inBlock, Exit.then]); refine bodyPost_ret (results_none rfl _ _ _) rfl ?_))
  exact ⟨rfl, HRD1.out, HBT.out⟩
set_option maxHeartbeats 2000000 in
theorem gQuery2 (R b0 : Nat) (s : St) (c2 c10 c11 : Value) (kind ver code grp rob ev : Int) (q : Bool) (w : World) (h : RdAt w R b0 s c2 (.int .u8 kind) (.int .i64 ver) (.int .u8 code) (.int .u32 grp) (.bool q) (.int .u8 rob) (.int .u8 ev) c10 c11) (hB : IsB s.left) (hl : s.left.length ≤ 1000000) (h4 : ¬ (s.left.length = 4 ∧ code = 0)) (h0 : (raddr s).2.left.length = 0) :
    Calls Try.prog 55 #[.pointer (some ⟨R, 0, none⟩)] w fun e w' => e = .returned (.tuple #[]) ∧ RdAt w' R b0 (raddr s).2 c2 (.int .u8 kind) (.int .i64 2) (.int .u8 code) (.int .u32 (raddr s).1) (.bool q) (.int .u8 rob) (.int .u8 ev) c10 c11 ∧ But1 R w w' := by
  have H := Lib.hid h
  have HB := Lib.hid hB
  have HL := Lib.hid hl
  have H0 := Lib.hid h0
  obtain ⟨⟨o, lc, d0⟩, -, -, -, d4, d5, -, -, -, -, -, -, df⟩ := h.cs
  have f4 := df 4
  have HRD := Lib.hid (rdSet4 h (.int .i64 2))
  obtain ⟨m, hm⟩ : ∃ m, m = s.left.length := ⟨_, rfl⟩
  rw [← hm] at d0 h4
  clear h hB hl df hm h0
  by_cases hm4 : (m : Int) = 4
  · have hcb : (code == 0) = false := by rw [beq_eq_false_iff_ne]; intro e; exact h4 ⟨by omega, e⟩
    have hmb : ((m : Int) == 4) = true := by rw [beq_iff_eq]; exact hm4
    clear h4 hm4
    go_enter Try.func55, Try.ntmps55
    go_wp2_with fail
    refine (gGroup R b0 s c2 (.int .u8 kind) (.int .i64 2) (.int .u8 code) (.int .u32 grp) (.bool q) (.int .u8 rob) (.int .u8 ev) c10 c11 _ HRD.out HB.out HL.out).mono ?_
    rintro e w1 ⟨rfl, hrd, hbt⟩
    obtain ⟨⟨o1, lc1, g0⟩, -⟩ := hrd.cs
    rw [H0.out] at g0
    have HRD1 := Lib.hid hrd
    have HBT := Lib.hid ((but_set w R 4 (.int .i64 2)).trans hbt)
    clear hrd hbt
    go_wp2
    (first | go_end0 | ((try simp only [Exit.inBlock, Exit.then]); refine bodyPost_ret (results_none rfl _ _ _) rfl ?_))
    exact ⟨rfl, HRD1.out, HBT.out⟩
  · have hmb : ((m : Int) == 4) = false := by rw [beq_eq_false_iff_ne]; exact hm4
    clear h4 hm4
    go_enter Try.func55, Try.ntmps55
    go_wp2_with fail
    refine (gGroup R b0 s c2 (.int .u8 kind) (.int .i64 2) (.int .u8 code) (.int .u32 grp) (.bool q) (.int .u8 rob) (.int .u8 ev) c10 c11 _ HRD.out HB.out HL.out).mono ?_
    rintro e w1 ⟨rfl, hrd, hbt⟩
    obtain ⟨⟨o1, lc1, g0⟩, -⟩ := hrd.cs
    rw [H0.out] at g0
    have HRD1 := Lib.hid hrd
    have HBT := Lib.hid ((but_set w R 4 (.int .i64 2)).trans hbt)
    clear hrd hbt
    go_wp2
    (first | go_end0 | ((try simp only [Exit.inBlock, Exit.then]); refine bodyPost_ret (results_none rfl _ _ _) rfl ?_))
    exact ⟨rfl, HRD1.out, HBT.out⟩
set_option maxHeartbeats 2000000 in
theorem gQuery3 (R b0 : Nat) (s : St) (c2 c10 c11 : Value) (kind ver code grp rob ev : Int) (q : Bool) (w : World) (h : RdAt w R b0 s c2 (.int .u8 kind) (.int .i64 ver) (.int .u8 code) (.int .u32 grp) (.bool q) (.int .u8 rob) (.int .u8 ev) c10 c11) (hB : IsB s.left) (hl : s.left.length ≤ 1000000) (h4 : ¬ (s.left.length = 4 ∧ code = 0)) (h0 : 0 < (raddr s).2.left.length) :
    Calls Try.prog 55 #[.pointer (some ⟨R, 0, none⟩)] w fun e w' => ∃ a c, e = .returned (.tuple #[]) ∧ AsO w' w.heap.size a (raddrs (rnum (rone (rone (raddr s).2).2).2).1 (rnum (rone (rone (raddr s).2).2).2).2).1 ∧
      RdAt w' R b0 (raddrs (rnum (rone (rone (raddr s).2).2).2).1 (rnum (rone (rone (raddr s).2).2).2).2).2 c2 (.int .u8 kind) (.int .i64 3) (.int .u8 code) (.int .u32 (raddr s).1) (.bool (decide ((rone (raddr s).2).1 / 8 % 2 = 1))) (.int .u8 ((rone (raddr s).2).1 % 8)) (.int .u8 (rone (rone (raddr s).2).2).1) (.slice a (raddrs (rnum (rone (rone (raddr s).2).2).2).1 (rnum (rone (rone (raddr s).2).2).2).2).1.length c) c11 ∧ But1 R w w' := by
  have H := Lib.hid h
  have HB := Lib.hid hB
  have HL := Lib.hid hl
  have H0 := Lib.hid h0
  have RB := Lib.hid (raddr_B hB).2
  have RL : Hid ((raddr s).2.left.length ≤ 1000000) := Lib.hid (Nat.le_trans (rtake_left 4 _) hl)
  obtain ⟨⟨o, lc, d0⟩, -, -, -, d4, d5, -, -, -, -, -, -, df⟩ := h.cs
  have f4 := df 4
  have HRD := Lib.hid (rdSet4 h (.int .i64 2))
  obtain ⟨m, hm⟩ : ∃ m, m = s.left.length := ⟨_, rfl⟩
  rw [← hm] at d0 h4
  clear h hB hl df hm h0
  by_cases hm4 : (m : Int) = 4
  · have hcb : (code == 0) = false := by rw [beq_eq_false_iff_ne]; intro e; exact h4 ⟨by omega, e⟩
    have hmb : ((m : Int) == 4) = true := by rw [beq_iff_eq]; exact hm4
    clear h4 hm4
    go_enter Try.func55, Try.ntmps55
    go_wp2_with fail
    refine (gGroup R b0 s c2 (.int .u8 kind) (.int .i64 2) (.int .u8 code) (.int .u32 grp) (.bool q) (.int .u8 rob) (.int .u8 ev) c10 c11 _ HRD.out HB.out HL.out).mono ?_
    rintro e w1 ⟨rfl, hrd, hbt⟩
    obtain ⟨⟨o1, lc1, g0⟩, -, -, -, k4, -, -, -, -, -, -, -, kf⟩ := hrd.cs
    have kf4 := kf 4
    have HGT : ((raddr s).2.left.length : Int) > 0 := by have := H0.out; omega
    have HRD1 := Lib.hid (rdSet4 hrd (.int .i64 3))
    have HBT := Lib.hid (((but_set w R 4 (.int .i64 2)).trans hbt).trans (but_set w1 R 4 (.int .i64 3)))
    clear hrd hbt kf
    go_wp2_with fail
    refine (gBesideR R b0 (raddr s).2 c2 (.int .u8 kind) (.int .i64 3) (.int .u8 code) (.int .u32 (raddr s).1) (.bool q) (.int .u8 rob) (.int .u8 ev) c10 c11 _ HRD1.out RB.out RL.out).mono ?_
    rintro e w2 ⟨a, c, rfl, has, hrd, hbt⟩
    have HAS := Lib.hid has
    have HRD2 := Lib.hid hrd
    have HBT2 := Lib.hid (HBT.out.trans hbt)
    clear has hrd hbt
    go_wp2
    (first | go_end0 | ((try simp only [Exit.inBlock, Exit.then]); refine bodyPost_ret (results_none rfl _ _ _) rfl ?_))
    exact ⟨a, c, rfl, HAS.out.mono HBT.out.size, HRD2.out, HBT2.out⟩
  · have hmb : ((m : Int) == 4) = false := by rw [beq_eq_false_iff_ne]; exact hm4
    clear h4 hm4
    go_enter Try.func55, Try.ntmps55
    go_wp2_with fail
    refine (gGroup R b0 s c2 (.int .u8 kind) (.int .i64 2) (.int .u8 code) (.int .u32 grp) (.bool q) (.int .u8 rob) (.int .u8 ev) c10 c11 _ HRD.out HB.out HL.out).mono ?_
    rintro e w1 ⟨rfl, hrd, hbt⟩
    obtain ⟨⟨o1, lc1, g0⟩, -, -, -, k4, -, -, -, -, -, -, -, kf⟩ := hrd.cs
    have kf4 := kf 4
    have HGT : ((raddr s).2.left.length : Int) > 0 := by have := H0.out; omega
    have HRD1 := Lib.hid (rdSet4 hrd (.int .i64 3))
    have HBT := Lib.hid (((but_set w R 4 (.int .i64 2)).trans hbt).trans (but_set w1 R 4 (.int .i64 3)))
    clear hrd hbt kf
    go_wp2_with fail
    refine (gBesideR R b0 (raddr s).2 c2 (.int .u8 kind) (.int .i64 3) (.int .u8 code) (.int .u32 (raddr s).1) (.bool q) (.int .u8 rob) (.int .u8 ev) c10 c11 _ HRD1.out RB.out RL.out).mono ?_
    rintro e w2 ⟨a, c, rfl, has, hrd, hbt⟩
    have HAS := Lib.hid has
    have HRD2 := Lib.hid hrd
    have HBT2 := Lib.hid (HBT.out.trans hbt)
    clear has hrd hbt
    go_wp2
    (first | go_end0 | ((try simp only [Exit.inBlock, Exit.then]); refine bodyPost_ret (results_none rfl _ _ _) rfl ?_))
    exact ⟨a, c, rfl, HAS.out.mono HBT.out.size, HRD2.out, HBT2.out⟩
end Go.Proofs.Ytmcnanoamgkljaa
/- How the reader reads a record. -/
namespace Go.Proofs.Ytmcnanoamgkljaa
set_option linter.unusedVariables false
open Go.RowKit

/-- A return whose one result lies in a variable. -/
theorem ret_cell1 {P : Program} {fn : Func} {R : Ending → World → Prop} {a : Act} {w : World} {p : Nat} {ty : TypeId} {q : Addr} {x : Value} (hr : fn.results = #[.cell p ty]) (hd : a.defers = []) (hp : a.tmps.getD p undef = .pointer (some q))
    (hl : (loadVar ty q).run P w = .ok x w) (hR : R (.returned x) w) : bodyPost P fn R .ret a w := by
  refine ⟨hd, _, ?_, hR⟩
  have hp' : a.tmps[p]?.getD undef = .pointer (some q) := by simpa using hp
  simp only [results, hr]
  simp [asAddr, hp', hl]
/-- Block X is a variable that holds a record. -/
def RBox (w : World) (X : Nat) (t g : Int) (v : Value) : Prop := w.heap[X]? = some (.cells #[.int .u8 t, .int .u32 g, v] 44 (0, 0))
namespace RBox
variable {w w' : World} {X R : Nat} {t g : Int} {v : Value}
theorem lt (h : RBox w X t g v) : X < w.heap.size := (Array.getElem?_eq_some_iff.1 h).1
theorem cells (h : RBox w X t g v) : w.cell? ⟨X, 0, none⟩ = some (.int .u8 t) ∧ w.cell? ⟨X, 1, none⟩ = some (.int .u32 g) ∧ w.cell? ⟨X, 2, none⟩ = some v ∧ ∀ j, w.frozen? ⟨X, j, none⟩ = false := by
  have h' : w.heap[X]? = some (.cells #[.int .u8 t, .int .u32 g, v] 44 (0, 0)) := h
  refine ⟨?_, ?_, ?_, fun j => ?_⟩
  case refine_4 => simp [World.frozen?, h']
  all_goals simp [World.cell?, h']
theorem but (h : RBox w X t g v) (hb : But1 R w w') (hne : X ≠ R) : RBox w' X t g v := (hb.block X h.lt hne).trans h
theorem keep (h : RBox w X t g v) (e : w'.heap[X]? = w.heap[X]?) : RBox w' X t g v := e.trans h
theorem new (w : World) (t g : Int) (v : Value) : RBox (w.alloc (.cells #[.int .u8 t, .int .u32 g, v] 44)) w.heap.size t g v := Go.Deep.blk_alloc_new _ _
theorem alloc (h : RBox w X t g v) (o : Obj) : RBox (w.alloc o) X t g v := (Below.heap_alloc w o X h.lt).trans h
theorem set1 (h : RBox w X t g v) (g' : Int) : RBox (w.setCell ⟨X, 1, none⟩ (.int .u32 g')) X t g' v := set_cells (j := 1) (v := .int .u32 g') h
theorem set2 (h : RBox w X t g v) (v' : Value) : RBox (w.setCell ⟨X, 2, none⟩ v') X t g v' := set_cells (j := 2) (v := v') h
theorem set3 (h : RBox w X t g v) (t' g' : Int) (v' : Value) : RBox (((w.setCell ⟨X, 0, none⟩ (.int .u8 t')).setCell ⟨X, 1, none⟩ (.int .u32 g')).setCell ⟨X, 2, none⟩ v') X t' g' v' :=
  set_cells (j := 2) (v := v') (set_cells (j := 1) (v := .int .u32 g') (set_cells (j := 0) (v := .int .u8 t') h))
theorem load (h : RBox w X t g v) : (loadVar 44 ⟨X, 0, none⟩).run Try.prog w = .ok (.agg #[.int .u8 t, .int .u32 g, v]) w := by
  obtain ⟨c0, c1, c2, _⟩ := h.cells
  clear h
  go_simp
end RBox
theorem bel_set {B : Nat} {w w' : World} (h : Below B w w') {X j : Nat} (hX : B ≤ X) (v : Value) : Below B w (w'.setCell ⟨X, j, none⟩ v) := h.setCell (p := ⟨X, j, none⟩) hX v
theorem set_other {w : World} {X Y j : Nat} {v : Value} (h : X ≠ Y) : (w.setCell ⟨Y, j, none⟩ v).heap[X]? = w.heap[X]? := Below.heap_setCell w ⟨Y, j, none⟩ v X h
theorem set_size (w : World) (X j : Nat) (v : Value) : (w.setCell ⟨X, j, none⟩ v).heap.size = w.heap.size := by simp [World.setCell]

set_option maxHeartbeats 4000000 in
theorem gRecord (R b0 : Nat) (s : St) (c2 c3 c4 c5 c6 c7 c8 c9 c10 c11 : Value) (w : World) (h : RdAt w R b0 s c2 c3 c4 c5 c6 c7 c8 c9 c10 c11) (hB : IsB s.left) (hl : s.left.length ≤ 1000000) :
    Calls Try.prog 66 #[.pointer (some ⟨R, 0, none⟩)] w fun e w' => ∃ a c, e = .returned (.agg #[.int .u8 (rrec s).1.typ, .int .u32 (rrec s).1.grp, .slice a (rrec s).1.srcs.length c]) ∧ AsO w' w.heap.size a (rrec s).1.srcs ∧
      RdAt w' R b0 (rrec s).2 c2 c3 c4 c5 c6 c7 c8 c9 c10 c11 ∧ But1 R w w' := by
  have H := Lib.hid h
  have HR := Lib.hid h.lt
  have h1 := rone_B hB
  have h2 := rone_B h1.2
  have h3 := rnum_B h2.2
  have h4 := raddr_B h3.2.1
  have l1 : (rone s).2.left.length ≤ 1000000 := Nat.le_trans (rtake_left 1 _) hl
  have l2 : (rone (rone s).2).2.left.length ≤ 1000000 := Nat.le_trans (rtake_left 1 _) l1
  have l3 : (rnum (rone (rone s).2).2).2.left.length ≤ 1000000 := Nat.le_trans (rtake_left 2 _) l2
  have l4' : (raddr (rnum (rone (rone s).2).2).2).2.left.length ≤ 1000000 := Nat.le_trans (rtake_left 4 _) l3
  have HB := Lib.hid hB
  have HL := Lib.hid hl
  have B1 := Lib.hid h1.2
  have B2 := Lib.hid h2.2
  have B3 := Lib.hid h3.2.1
  have B4 := Lib.hid h4.2
  have N3 := Lib.hid h3.1
  have L1 := Lib.hid l1
  have L2 := Lib.hid l2
  have L3 := Lib.hid l3
  have L4 := Lib.hid l4'
  clear h hB hl h1 h2 h3 h4 l1 l2 l3 l4'
  have HX0 := Lib.hid (RBox.new w 0 0 (.slice none 0 0))
  go_enter Try.func66, Try.ntmps66
  go_wp2_with fail
  refine (gOne R b0 s c2 c3 c4 c5 c6 c7 c8 c9 c10 c11 _ (H.out.below (bel1 _ _)) HB.out HL.out).mono ?_
  rintro e w1 ⟨rfl, hrd, hbt⟩
  have BT1 := Lib.hid ((But1.of_below (R := R) (bel1 w _)).trans hbt)
  have RD1 := Lib.hid hrd
  have X1 := Lib.hid (HX0.out.but hbt (by have := HR.out; omega))
  have S1' : Hid (w.heap.size < w1.heap.size) := Lib.hid X1.out.lt
  have Y1 := Lib.hid (RBox.new w1 (rone s).1 0 (.slice none 0 0))
  clear hrd hbt
  go_wp2_with fail
  refine (gOne R b0 (rone s).2 c2 c3 c4 c5 c6 c7 c8 c9 c10 c11 _ (RD1.out.below (bel1 _ _)) B1.out L1.out).mono ?_
  rintro e w2 ⟨rfl, hrd, hbt⟩
  have BT2 := Lib.hid ((BT1.out.trans (But1.of_below (bel1 w1 _))).trans hbt)
  have RD2 := Lib.hid hrd
  have X2 := Lib.hid ((X1.out.alloc _).but hbt (by have := HR.out; omega))
  have Y2 := Lib.hid (Y1.out.but hbt (by have h1 := HR.out; have h2 := S1'.out; omega))
  clear hrd hbt
  go_wp2_with fail
  refine (gNumber R b0 (rone (rone s).2).2 c2 c3 c4 c5 c6 c7 c8 c9 c10 c11 _ RD2.out B2.out L2.out).mono ?_
  rintro e w3 ⟨rfl, hrd, hbt⟩
  have BT3 := Lib.hid (BT2.out.trans hbt)
  have RD3 := Lib.hid hrd
  have X3 := Lib.hid (X2.out.but hbt (by have := HR.out; omega))
  have Y3 := Lib.hid (Y2.out.but hbt (by have h1 := HR.out; have h2 := S1'.out; omega))
  clear hrd hbt
  go_wp2_with fail
  refine (gAddr R b0 (rnum (rone (rone s).2).2).2 c2 c3 c4 c5 c6 c7 c8 c9 c10 c11 _ RD3.out B3.out L3.out).mono ?_
  rintro e w4 ⟨rfl, hrd, hbt⟩
  have BT4 := Lib.hid (BT3.out.trans hbt)
  have Y4 := Y3.out.but hbt (by have h1 := HR.out; have h2 := S1'.out; omega)
  obtain ⟨-, y1, -, yf⟩ := Y4.cells
  have yf1 := yf 1
  have X4 := Lib.hid ((X3.out.but hbt (by have := HR.out; omega)).keep (set_other (j := 1) (v := .int .u32 (raddr (rnum (rone (rone s).2).2).2).1) (by have := S1'.out; omega : w.heap.size ≠ w1.heap.size)))
  have Y4' := Lib.hid (Y4.set1 (raddr (rnum (rone (rone s).2).2).2).1)
  have RD4 : Hid (RdAt (w4.setCell ⟨w1.heap.size, 1, none⟩ (.int .u32 (raddr (rnum (rone (rone s).2).2).2).1)) R b0 (raddr (rnum (rone (rone s).2).2).2).2 c2 c3 c4 c5 c6 c7 c8 c9 c10 c11) := Lib.hid (hrd.low (bel_set (Below.refl w.heap.size w4) (by have := S1'.out; omega) _) HR.out)
  have BT4' : Hid (But1 R w (w4.setCell ⟨w1.heap.size, 1, none⟩ (.int .u32 (raddr (rnum (rone (rone s).2).2).2).1))) := Lib.hid (BT4.out.low (bel_set (Below.refl w.heap.size w4) (by have := S1'.out; omega) _) BT4.out.size HR.out)
  clear hrd hbt Y4 yf
  go_wp2_with fail
  refine (gAddrs (rnum (rone (rone s).2).2).1 R b0 (raddr (rnum (rone (rone s).2).2).2).2 c2 c3 c4 c5 c6 c7 c8 c9 c10 c11 _ RD4.out B4.out L4.out N3.out).mono ?_
  rintro e w5 ⟨a, c, rfl, has, hrd, hbt⟩
  have BT5 := Lib.hid (BT4'.out.trans hbt)
  have Y5 := Y4'.out.but hbt (by have h1 := HR.out; have h2 := S1'.out; omega)
  have X5 := X4.out.but hbt (by have h1 := HR.out; omega)
  obtain ⟨z0, z1, z2, zf⟩ := Y5.cells
  have zf2 := zf 2
  obtain ⟨x0, x1, x2, xf⟩ := X5.cells
  have xf0 := xf 0
  have xf1 := xf 1
  have xf2 := xf 2
  have HX5 := Lib.hid (((X5.keep (set_other (j := 2) (v := .slice a (raddrs (rnum (rone (rone s).2).2).1 (raddr (rnum (rone (rone s).2).2).2).2).1.length c) (by have := S1'.out; omega : w.heap.size ≠ w1.heap.size)))).set3 (rone s).1 (raddr (rnum (rone (rone s).2).2).2).1 (.slice a (raddrs (rnum (rone (rone s).2).2).1 (raddr (rnum (rone (rone s).2).2).2).2).1.length c))
  have HAS := Lib.hid has
  have sz5 : Hid (w4.heap.size ≤ w5.heap.size ∧ w1.heap.size < w4.heap.size) := Lib.hid ⟨by have := hbt.size; rwa [set_size] at this, by have := Y4'.out.lt; rwa [set_size] at this⟩
  have BF : Hid (Below w.heap.size w5 ((((w5.setCell ⟨w1.heap.size, 2, none⟩ (.slice a (raddrs (rnum (rone (rone s).2).2).1 (raddr (rnum (rone (rone s).2).2).2).2).1.length c)).setCell ⟨w.heap.size, 0, none⟩ (.int .u8 (rone s).1)).setCell ⟨w.heap.size, 1, none⟩ (.int .u32 (raddr (rnum (rone (rone s).2).2).2).1)).setCell ⟨w.heap.size, 2, none⟩ (.slice a (raddrs (rnum (rone (rone s).2).2).1 (raddr (rnum (rone (rone s).2).2).2).2).1.length c))) :=
    Lib.hid (bel_set (bel_set (bel_set (bel_set (Below.refl w.heap.size w5) (by have := S1'.out; omega) _) (Nat.le_refl _) _) (Nat.le_refl _) _) (Nat.le_refl _) _)
  have RD5 := Lib.hid (hrd.low BF.out HR.out)
  have ne1 : w.heap.size ≠ w1.heap.size := by have := S1'.out; omega
  clear hrd hbt has Y5 X5 zf xf y1 yf1
  go_wp2
  refine ret_cell1 rfl rfl rfl HX5.out.load ?_
  refine ⟨a, c, rfl, AsO.mono (B := (w4.setCell ⟨w1.heap.size, 1, none⟩ (.int .u32 (raddr (rnum (rone (rone s).2).2).2).1)).heap.size) (HAS.out.keep fun g cur hB _ => ?_) (by rw [set_size]; exact BT4.out.size), RD5.out, BT5.out.low BF.out BT5.out.size HR.out⟩
  rw [set_size] at hB
  have h1 := sz5.out
  have h2 := S1'.out
  rw [set_other (by omega), set_other (by omega), set_other (by omega), set_other (by omega)]
end Go.Proofs.Ytmcnanoamgkljaa
/- How a report of version 3 goes on. -/
namespace Go.Proofs.Ytmcnanoamgkljaa
set_option linter.unusedVariables false
open Go.RowKit

theorem infoR : (Try.prog.info? 44).map (fun i => (i.zero, i.size, i.bytes)) = some (some (.agg #[.int .u8 0, .int .u32 0, .slice none 0 0]), 3, 32) := by kernel_rfl
/-- Records in a block of the call's own. -/
def RowR (w : World) (B : Nat) (a : Option Addr) (n cap : Nat) (rs : List Rec) (cs : List Value) : Prop :=
  w.ownsRow B 44 3 (.slice a n cap) n cs ∧ rs.length = n ∧ ∀ (k : Nat) r, rs[k]? = some r → ∃ ak ck, cs[k * 3]? = some (.int .u8 r.typ) ∧ cs[k * 3 + 1]? = some (.int .u32 r.grp) ∧ cs[k * 3 + 2]? = some (.slice ak r.srcs.length ck) ∧ AsO w B ak r.srcs
theorem RowR.own {w : World} {B n cap : Nat} {a : Option Addr} {rs : List Rec} {cs : List Value} (h : RowR w B a n cap rs cs) : w.ownsRow B 44 3 (.slice a n cap) n cs := h.1
theorem RowR.but {w w' : World} {B n cap R : Nat} {a : Option Addr} {rs : List Rec} {cs : List Value} (h : RowR w B a n cap rs cs) (hb : But1 R w w') (hR : R < B) : RowR w' B a n cap rs cs := by
  refine ⟨own_but h.1 hb hR, h.2.1, fun k r hk => ?_⟩
  obtain ⟨ak, ck, h1, h2, h3, h4⟩ := h.2.2 k r hk
  exact ⟨ak, ck, h1, h2, h3, h4.but hb hR⟩
theorem RowR.nil (w : World) (B : Nat) : RowR w B none 0 0 [] [] := ⟨own_nil _ _ _ _, rfl, fun k r h => by simp at h⟩
theorem own_len {w : World} {B n size : Nat} {e : TypeId} {v : Value} {xs : List Value} (h : w.ownsRow B e size v n xs) : xs.length = n * size := h.1
/-- One record more. -/
theorem RowR.app {w w' : World} {B n cap cap' : Nat} {a a' : Option Addr} {rs : List Rec} {cs : List Value} {r : Rec} {ar : Option Addr} {cr : Nat} (h : RowR w B a n cap rs cs) (hr : AsO w B ar r.srcs)
    (ho : w'.ownsRow B 44 3 (.slice a' (n + 1) cap') (n + 1) (cs ++ [.int .u8 r.typ, .int .u32 r.grp, .slice ar r.srcs.length cr]))
    (hst : ∀ q, q < w.heap.size → a ≠ some ⟨q, 0, none⟩ → w'.heap[q]? = w.heap[q]? ∧ a' ≠ some ⟨q, 0, none⟩) : RowR w' B a' (n + 1) cap' (rs ++ [r]) (cs ++ [.int .u8 r.typ, .int .u32 r.grp, .slice ar r.srcs.length cr]) := by
  have key : ∀ {a2 : Option Addr} {xs : List Int}, AsO w B a2 xs → AsO w' B a2 xs := by
    intro a2 xs hx
    refine hx.keep fun g cur _ hg => (hst g (Array.getElem?_eq_some_iff.1 hg).1 ?_).1
    intro e
    rcases h.1.2 with ⟨e1, _⟩ | ⟨g1, c1, cur1, e1, _, hg1, _⟩
    · rw [e] at e1; simp at e1
    · rw [e] at e1
      simp at e1
      obtain ⟨rfl, _⟩ := e1
      rw [hg] at hg1
      simp at hg1
  have hlen : cs.length = n * 3 := own_len h.1
  refine ⟨ho, by simp [h.2.1], fun k r' hk => ?_⟩
  have hrn := h.2.1
  by_cases hkn : k < n
  · rw [List.getElem?_append_left (by omega)] at hk
    obtain ⟨ak, ck, h1, h2, h3, h4⟩ := h.2.2 k r' hk
    refine ⟨ak, ck, ?_, ?_, ?_, key h4⟩
    · rw [List.getElem?_append_left (by omega)]; exact h1
    · rw [List.getElem?_append_left (by omega)]; exact h2
    · rw [List.getElem?_append_left (by omega)]; exact h3
  · have hk' := hk
    rw [List.getElem?_append_right (by omega)] at hk
    have hk1 : k - rs.length = 0 := by
      have := (List.getElem?_eq_some_iff.1 hk).1
      simp at this; omega
    rw [hk1] at hk
    simp at hk
    subst hk
    have ek : k = n := by omega
    subst ek
    refine ⟨ar, cr, ?_, ?_, ?_, key hr⟩
    · rw [List.getElem?_append_right (by omega), hlen, Nat.sub_self]; rfl
    · rw [List.getElem?_append_right (by omega), hlen, show k * 3 + 1 - k * 3 = 1 by omega]; rfl
    · rw [List.getElem?_append_right (by omega), hlen, show k * 3 + 2 - k * 3 = 2 by omega]; rfl
/-- What a reader of it sees. -/
theorem RowR.rs {w : World} {B n cap : Nat} {a : Option Addr} {rs : List Rec} {cs : List Value} (h : RowR w B a n cap rs cs) (hok : ∀ r ∈ rs, RecOk r ∧ r.srcs.length ≤ 65535) : Rs w a rs := by
  by_cases h0 : n = 0
  · subst h0
    exact .inl (List.eq_nil_of_length_eq_zero h.2.1)
  obtain ⟨⟨hl, ho⟩, hn, hc⟩ := h
  rcases ho with ⟨_, e⟩ | ⟨g, cap, cur, e, hB, hg, hnc, _, hsz, htk⟩
  · omega
  · simp at e
    refine .inr ⟨g, 0, e.1, fun k r hk => ?_⟩
    obtain ⟨ak, ck, h1, h2, h3, h4⟩ := hc k r hk
    have hkn : k < n := by rw [← hn]; exact (List.getElem?_eq_some_iff.1 hk).1
    have hr := hok r (List.mem_of_getElem? hk)
    have key : ∀ j v, j < n * 3 → cs[j]? = some v → w.cell? ⟨g, j, none⟩ = some v := by
      intro j v hj hv
      rw [← htk, List.getElem?_take_of_lt hj] at hv
      have hv' : cur[j]? = some v := by simpa using hv
      simp [World.cell?, hg, hv']
    refine ⟨ak, ck, ?_, ?_, ?_, h4.as hr.1.2.2, hr.1.1, hr.1.2.1, by have := hr.2; omega⟩
    · rw [Nat.zero_add]; exact key _ _ (by omega) h1
    · rw [Nat.zero_add]; exact key _ _ (by omega) h2
    · rw [Nat.zero_add]; exact key _ _ (by omega) h3
theorem raddrs_left : ∀ (n : Nat) (s : St), (raddrs n s).2.left.length ≤ s.left.length
  | 0, s => Nat.le_refl _
  | n + 1, s => by
    rw [raddrs]
    split
    · exact Nat.le_refl _
    · exact Nat.le_trans (raddrs_left n _) (rtake_left 4 _)
theorem rrec_left (s : St) : (rrec s).2.left.length ≤ s.left.length :=
  Nat.le_trans (raddrs_left _ _) (Nat.le_trans (rtake_left 4 _) (Nat.le_trans (rtake_left 2 _) (Nat.le_trans (rtake_left 1 _) (rtake_left 1 _))))
theorem one3 (t g : Int) (a : Option Addr) (n c : Nat) : ∀ u ∈ [Value.int .u8 t, .int .u32 g, .slice a n c], u.oneCell' = true := by
  intro u hu
  simp at hu
  rcases hu with rfl | rfl | rfl <;> rfl

set_option maxHeartbeats 4000000 in
theorem gReportR (R b0 : Nat) (s : St) (c2 c3 c4 c5 c6 c7 c8 c9 c10 : Value) (w : World) (h : RdAt w R b0 s c2 c3 c4 c5 c6 c7 c8 c9 c10 (.slice none 0 0)) (hB : IsB s.left) (hl : s.left.length ≤ 1000000) :
    Calls Try.prog 57 #[.pointer (some ⟨R, 0, none⟩)] w fun e w' => ∃ a cap cs, e = .returned (.tuple #[]) ∧ RowR w' w.heap.size a (rrecs (rnum (rnum s).2).1 (rnum (rnum s).2).2).1.length cap (rrecs (rnum (rnum s).2).1 (rnum (rnum s).2).2).1 cs ∧
      RdAt w' R b0 (rrecs (rnum (rnum s).2).1 (rnum (rnum s).2).2).2 (.bool (decide ((rnum s).1 ≠ 0))) c3 c4 c5 c6 c7 c8 c9 c10 (.slice a (rrecs (rnum (rnum s).2).1 (rnum (rnum s).2).2).1.length cap) ∧ But1 R w w' := by
  have H := Lib.hid h
  have HR := Lib.hid h.lt
  have h1 := rnum_B hB
  have h2 := rnum_B h1.2.1
  have l1 : (rnum s).2.left.length ≤ 1000000 := Nat.le_trans (rtake_left 2 _) hl
  have l2 : (rnum (rnum s).2).2.left.length ≤ 1000000 := Nat.le_trans (rtake_left 2 _) l1
  have HB := Lib.hid hB
  have HL := Lib.hid hl
  have B1 := Lib.hid h1.2.1
  have B2 := Lib.hid h2.2.1
  have N2 := Lib.hid h2.1
  have L1 := Lib.hid l1
  have L2 := Lib.hid l2
  obtain ⟨N, hN⟩ : ∃ N, N = (rnum (rnum s).2).1 := ⟨_, rfl⟩
  obtain ⟨s2, hs2⟩ : ∃ s2, s2 = (rnum (rnum s).2).2 := ⟨_, rfl⟩
  obtain ⟨wz, hwz⟩ : ∃ wz, wz = decide ((rnum s).1 ≠ 0) := ⟨_, rfl⟩
  rw [← hN, ← hs2, ← hwz]
  rw [← hs2] at B2 L2
  rw [← hN] at N2
  have HN := Lib.hid hN
  have HS2 := Lib.hid hs2
  clear hN hs2
  have W0 : Hid ((((rnum s).1 : Int) != 0) = wz) := Lib.hid (by rw [hwz]; by_cases h : (rnum s).1 = 0 <;> simp [h])
  clear hwz
  obtain ⟨i0, hi0, hz0, hz1, hz2⟩ := info_parts infoR
  have HI := Lib.hid hi0
  have HZ := Lib.hid hz0
  have HZ1 := Lib.hid hz1
  have HZ2 := Lib.hid hz2
  clear h hB hl h1 h2 l1 l2 hi0 hz0 hz1 hz2
  go_enter Try.func57, Try.ntmps57
  go_wp2_with fail
  refine (gNumber R b0 s c2 c3 c4 c5 c6 c7 c8 c9 c10 (.slice none 0 0) _ H.out HB.out HL.out).mono ?_
  rintro e w1 ⟨rfl, hrd, hbt⟩
  obtain ⟨-, -, d2, -, -, -, -, -, -, -, -, -, df⟩ := hrd.cs
  have f2 := df 2
  have RD1 := Lib.hid (rdSet2 hrd (.bool wz))
  have BT1 := Lib.hid (hbt.trans (but_set w1 R 2 (.bool wz)))
  clear hrd hbt df
  go_wp2_with fail
  rw [W0.out]
  refine (gNumber R b0 (rnum s).2 (.bool wz) c3 c4 c5 c6 c7 c8 c9 c10 (.slice none 0 0) _ RD1.out B1.out L1.out).mono ?_
  rintro e w2 ⟨he, hrd, hbt⟩
  rw [← HN.out] at he
  rw [← HS2.out] at hrd
  subst he
  have RD2 := Lib.hid hrd
  have BT2 := Lib.hid (BT1.out.trans hbt)
  clear hrd hbt d2 f2
  go_wp2_with fail
  go_loopw [2] (fun nv wr => ∃ (j : Nat) (t : St) (l : List Rec) (a' : Option Addr) (cap' : Nat) (cs : List Value), nv = .int .i64 j ∧ l.length + j ≤ N ∧ RowR wr w.heap.size a' l.length cap' l cs ∧ RdAt wr R b0 t (.bool wz) c3 c4 c5 c6 c7 c8 c9 c10 (.slice a' l.length cap') ∧ But1 R w wr ∧
    rrecs N s2 = (l ++ (rrecs j t).1, (rrecs j t).2) ∧ IsB t.left ∧ t.left.length ≤ 1000000) (fun nv _ => (intOf nv).toNat)
  case atStart => exact ⟨N, s2, [], none, 0, [], rfl, by simp, RowR.nil _ _, RD2.out, BT2.out, by simp, B2.out, L2.out⟩
  case round =>
    obtain ⟨j, t, l, a1, cap1, cs1, rfl, hlj, hrow, hrd, hbt, hR, hB, hl⟩ := hrel
    have HRO := Lib.hid hrow
    have HRD := Lib.hid hrd
    have HBT := Lib.hid hbt
    have HREQ := Lib.hid hR
    have HB1 := Lib.hid hB
    have HL1 := Lib.hid hl
    obtain ⟨-, r1, -, -, -, -, -, -, -, -, -, d11, -⟩ := hrd.cs
    clear hrow hbt hR hB hl hrd
    by_cases hj : j = 0
    · subst hj
      have E : Hid (rrecs N s2 = (l, t)) := Lib.hid (HREQ.out.trans (by simp [rrecs]))
      go_wp2
      go_end0
      rw [E.out]
      first | exact ⟨a1, cap1, cs1, rfl, HRO.out, HRD.out, HBT.out⟩ | exact ⟨rfl, a1, cap1, ⟨cs1, HRO.out⟩, HRD.out, HBT.out⟩ | exact ⟨rfl, a1, cap1, cs1, HRO.out, HRD.out, HBT.out⟩
    obtain ⟨tl, ts⟩ := t
    have j0 : (j : Int) > 0 := by omega
    cases ts with
    | true =>
      have E : Hid (rrecs N s2 = (l, ⟨tl, true⟩)) := Lib.hid (HREQ.out.trans (by rw [rrecs_short _ _ rfl]; simp))
      go_wp2
      go_end0
      rw [E.out]
      first | exact ⟨a1, cap1, cs1, rfl, HRO.out, HRD.out, HBT.out⟩ | exact ⟨rfl, a1, cap1, ⟨cs1, HRO.out⟩, HRD.out, HBT.out⟩ | exact ⟨rfl, a1, cap1, cs1, HRO.out, HRD.out, HBT.out⟩
    | false =>
      obtain ⟨j, rfl⟩ : ∃ i, j = i + 1 := ⟨j - 1, by omega⟩
      have E : Hid (rrecs N s2 = (l ++ [(rrec ⟨tl, false⟩).1] ++ (rrecs j (rrec ⟨tl, false⟩).2).1, (rrecs j (rrec ⟨tl, false⟩).2).2)) := Lib.hid (HREQ.out.trans (by rw [rrecs]; simp))
      have BB := Lib.hid (rrec_B HB1.out)
      have LL : Hid ((rrec ⟨tl, false⟩).2.left.length ≤ 1000000) := Lib.hid (Nat.le_trans (rrec_left _) HL1.out)
      have hn2 := N2.out
      have d11d : wr.drew.cell? ⟨R, 11, none⟩ = some (.slice a1 l.length cap1) := d11
      go_wp2_with fail
      go_region_law (first
          | (go_simp; go_at_call 66; refine (gRecord R b0 ⟨tl, false⟩ (.bool wz) c3 c4 c5 c6 c7 c8 c9 c10 (.slice a1 l.length cap1) _ (by exact HRD.out) HB1.out HL1.out).mono ?_; rintro e w3 ⟨ar, cr, rfl, has, hrd3, hbt3⟩; obtain ⟨-, -, -, -, -, -, -, -, -, -, -, e11, ef⟩ := hrd3.cs; have ef11 := ef 11; have lw3 := hrd3.lt; have HAS := Lib.hid (has.mono (C := w.heap.size) (by exact HBT.out.size)); have HRD3 := Lib.hid hrd3; have HBT3 : Hid (But1 R w w3) := Lib.hid (But1.trans (w' := wr) HBT.out (by exact ⟨hbt3.os, hbt3.tape, hbt3.output, hbt3.size, hbt3.block⟩)); have HRO3 := Lib.hid (RowR.but (w := wr) HRO.out (by exact ⟨hbt3.os, hbt3.tape, hbt3.output, hbt3.size, hbt3.block⟩) HR.out); clear has hrd3 hbt3 ef)
          | ((refine step_app_one rfl 25 44 i0 (.agg #[.int .u8 0, .int .u32 0, .slice none 0 0]) 3 32 Try.underlying25 HI.out HZ.out HZ1.out HZ2.out rfl (by decide) (by decide) (.tmp 27) (.tmp 30) (by rfl) w.heap.size a1 l.length cap1 cs1 (by rfl) (HRO3.out.own.alloc _) ⟨w3.heap.size, 0, none⟩ 1 [.int .u8 (rrec ⟨tl, false⟩).1.typ, .int .u32 (rrec ⟨tl, false⟩).1.grp, .slice ar (rrec ⟨tl, false⟩).1.srcs.length cr] (by rfl) (by rfl) (news_new w3 _ _) (one3 _ _ _ _ _) (by omega) (Nat.le_trans HBT3.out.size (bel1 _ _).size) ?_); intro a2 cap2 w4 how4 hb4 hst4; have HRD4 := Lib.hid ((HRD3.out.below (bel1 _ _)).low hb4.out HR.out); obtain ⟨-, -, -, -, -, -, -, -, -, -, -, g11, gf⟩ := HRD4.out.cs; have gf11 := gf 11)
          | fail)
      all_goals
        go_wp2
        go_roundw
        case rel =>
          have hl' : (l ++ [(rrec ⟨tl, false⟩).1]).length = l.length + 1 := by simp
          have hrow : RowR w4 w.heap.size a2 (l.length + 1) cap2 (l ++ [(rrec ⟨tl, false⟩).1]) _ := RowR.app (w := w3.alloc (.cells #[.int .u8 (rrec ⟨tl, false⟩).1.typ, .int .u32 (rrec ⟨tl, false⟩).1.grp, .slice ar (rrec ⟨tl, false⟩).1.srcs.length cr] 44)) (HRO3.out.but (But1.of_below (R := R) (bel1 _ _)) HR.out) (HAS.out.below (bel1 _ _)) how4.out hst4.out
          have hb4' : Below w.heap.size (w3.alloc (.cells #[.int .u8 (rrec ⟨tl, false⟩).1.typ, .int .u32 (rrec ⟨tl, false⟩).1.grp, .slice ar (rrec ⟨tl, false⟩).1.srcs.length cr] 44)) w4 := hb4.out
          refine ⟨j, (rrec ⟨tl, false⟩).2, l ++ [(rrec ⟨tl, false⟩).1], a2, cap2, _, by go_num, by rw [hl']; omega, by rw [hl']; exact hrow.but (but_set w4 R 11 _) HR.out, by rw [hl']; exact rdSet11 HRD4.out _, ?_, E.out, BB.out.2.1, LL.out⟩
          exact ((HBT3.out.trans (But1.of_below (bel1 _ _))).low hb4' (Nat.le_trans HBT3.out.size (bel1 _ _).size) HR.out).trans (but_set w4 R 11 _)
        case measure => simp [intOf]
end Go.Proofs.Ytmcnanoamgkljaa
/- How each kind goes on: the map of the reader's ways. -/
namespace Go.Proofs.Ytmcnanoamgkljaa
set_option linter.unusedVariables false
open Go.RowKit

theorem find_not (k : Int) : ∀ (l : List MapEntry) (i : Nat), (∀ e ∈ l, ∃ x, e.key = .int .u8 x ∧ k ≠ x) → Instr.findNow (.int .u8) (.int .u8 k) l i = some none
  | [], i, _ => rfl
  | e :: l, i, h => by
    obtain ⟨x, hx, hne⟩ := h e (by simp)
    have ih := find_not k l (i + 1) fun e' he' => h e' (by simp [he'])
    unfold Instr.findNow
    rw [hx]
    have hb : (k == x) = false := beq_eq_false_iff_ne.2 hne
    simp [Instr.sameNow, hb, ih]
/-- One way more. -/
theorem run_ins (w : World) (B : Nat) (es : Array MapEntry) (cl : Nat) (hb : w.heap[B]? = some (.map es cl)) (k : Int) (v : Value) (hk : ∀ e ∈ es.toList, ∃ x, e.key = .int .u8 x ∧ k ≠ x) :
    ∃ w', (Instr.mapUpdate 63 (.map (some B)) (.int .u8 k) v).run Try.prog w = .ok () w' ∧ w'.heap[B]? = some (.map (es.push ⟨.int .u8 k, v, cl⟩) (cl + 1)) ∧ ∀ C, C ≤ B → Below C w w' := by
  have hlt : B < w.heap.size := (Array.getElem?_eq_some_iff.1 hb).1
  refine ⟨{ w with heap := w.heap.setIfInBounds B (.map (es.push ⟨.int .u8 k, v, cl⟩) (cl + 1)) }, ?_, by simp [hlt], fun C hC => ⟨rfl, rfl, rfl, by simp, fun i hi => by simp only; rw [Array.getElem?_setIfInBounds_ne (by omega)]⟩⟩
  have hf := find_not k es.toList 0 hk
  simp [Instr.mapUpdate, run_underlying Try.underlying63, MapKept.run_getObj_map hb, MapKept.run_checkKey Try.underlying5 (k := .int .u8 k) (by simp [MapKept.IsKey]), MapKept.run_findKey Try.underlying5 hf, MapKept.run_setObj_map _ hb, Result.andThen]
/-- A way that is there. -/
theorem run_look (w : World) (B : Nat) (es : Array MapEntry) (cl : Nat) (hb : w.heap[B]? = some (.map es cl)) (k : Int) (i : Nat) (v : Value) (hf : Instr.findNow (.int .u8) (.int .u8 k) es.toList 0 = some (some (i, v))) :
    (Instr.lookup 63 (.map (some B)) (.int .u8 k) true).run Try.prog w = .ok (.tuple #[v, .bool true]) w := by
  simp [Instr.lookup, run_underlying Try.underlying63, MapKept.run_getObj_map hb, MapKept.run_checkKey Try.underlying5 (k := .int .u8 k) (by simp [MapKept.IsKey]), MapKept.run_findKey Try.underlying5 hf, Result.andThen]
theorem run_look_no (w : World) (B : Nat) (es : Array MapEntry) (cl : Nat) (hb : w.heap[B]? = some (.map es cl)) (k : Int) (hf : Instr.findNow (.int .u8) (.int .u8 k) es.toList 0 = some none) :
    (Instr.lookup 63 (.map (some B)) (.int .u8 k) true).run Try.prog w = .ok (.tuple #[.nilFunc, .bool false]) w := by
  have hz : ∀ w : World, (zeroValue 1).run Try.prog w = .ok .nilFunc w := fun w => by kernel_rfl
  simp [Instr.lookup, run_underlying Try.underlying63, MapKept.run_getObj_map hb, MapKept.run_checkKey Try.underlying5 (k := .int .u8 k) (by simp [MapKept.IsKey]), MapKept.run_findKey Try.underlying5 hf, Result.andThen, hz]
/-- The ways of reader R. -/
def ways (R : Nat) : Array MapEntry :=
  #[⟨.int .u8 17, (.func (.func 55) #[.pointer (some ⟨R, 0, none⟩)] #[]), 0⟩, ⟨.int .u8 18, (.func (.func 56) #[.pointer (some ⟨R, 0, none⟩)] #[]), 1⟩, ⟨.int .u8 22, (.func (.func 56) #[.pointer (some ⟨R, 0, none⟩)] #[]), 2⟩, ⟨.int .u8 23, (.func (.func 56) #[.pointer (some ⟨R, 0, none⟩)] #[]), 3⟩, ⟨.int .u8 34, (.func (.func 57) #[.pointer (some ⟨R, 0, none⟩)] #[]), 4⟩]
theorem look17 {w : World} {R B : Nat} (hb : w.heap[B]? = some (.map (ways R) 5)) : (Instr.lookup 63 (.map (some B)) (.int .u8 17) true).run Try.prog w = .ok (.tuple #[(.func (.func 55) #[.pointer (some ⟨R, 0, none⟩)] #[]), .bool true]) w :=
  run_look w B _ _ hb 17 0 _ (by simp [ways, Instr.findNow, Instr.sameNow])
theorem look18 {w : World} {R B : Nat} (hb : w.heap[B]? = some (.map (ways R) 5)) : (Instr.lookup 63 (.map (some B)) (.int .u8 18) true).run Try.prog w = .ok (.tuple #[(.func (.func 56) #[.pointer (some ⟨R, 0, none⟩)] #[]), .bool true]) w :=
  run_look w B _ _ hb 18 1 _ (by simp [ways, Instr.findNow, Instr.sameNow])
theorem look22 {w : World} {R B : Nat} (hb : w.heap[B]? = some (.map (ways R) 5)) : (Instr.lookup 63 (.map (some B)) (.int .u8 22) true).run Try.prog w = .ok (.tuple #[(.func (.func 56) #[.pointer (some ⟨R, 0, none⟩)] #[]), .bool true]) w :=
  run_look w B _ _ hb 22 2 _ (by simp [ways, Instr.findNow, Instr.sameNow])
theorem look23 {w : World} {R B : Nat} (hb : w.heap[B]? = some (.map (ways R) 5)) : (Instr.lookup 63 (.map (some B)) (.int .u8 23) true).run Try.prog w = .ok (.tuple #[(.func (.func 56) #[.pointer (some ⟨R, 0, none⟩)] #[]), .bool true]) w :=
  run_look w B _ _ hb 23 3 _ (by simp [ways, Instr.findNow, Instr.sameNow])
theorem look34 {w : World} {R B : Nat} (hb : w.heap[B]? = some (.map (ways R) 5)) : (Instr.lookup 63 (.map (some B)) (.int .u8 34) true).run Try.prog w = .ok (.tuple #[(.func (.func 57) #[.pointer (some ⟨R, 0, none⟩)] #[]), .bool true]) w :=
  run_look w B _ _ hb 34 4 _ (by simp [ways, Instr.findNow, Instr.sameNow])
theorem lookNo {w : World} {R B : Nat} (hb : w.heap[B]? = some (.map (ways R) 5)) (k : Int) (hk : isKind k = false) : (Instr.lookup 63 (.map (some B)) (.int .u8 k) true).run Try.prog w = .ok (.tuple #[.nilFunc, .bool false]) w := by
  refine run_look_no w B _ _ hb k ?_
  unfold isKind at hk
  rw [decide_eq_false_iff_not] at hk
  have h1 : (k == 17) = false := beq_eq_false_iff_ne.2 fun e => hk (by omega)
  have h2 : (k == 18) = false := beq_eq_false_iff_ne.2 fun e => hk (by omega)
  have h3 : (k == 22) = false := beq_eq_false_iff_ne.2 fun e => hk (by omega)
  have h4 : (k == 23) = false := beq_eq_false_iff_ne.2 fun e => hk (by omega)
  have h5 : (k == 34) = false := beq_eq_false_iff_ne.2 fun e => hk (by omega)
  simp [ways, Instr.findNow, Instr.sameNow, h1, h2, h3, h4, h5]

set_option maxHeartbeats 1000000 in
theorem gWays (R : Nat) (w : World) :
    Calls Try.prog 39 #[.pointer (some ⟨R, 0, none⟩)] w fun e w' => e = .returned (.map (some w.heap.size)) ∧ w'.heap[w.heap.size]? = some (.map (ways R) 5) ∧ Below w.heap.size w w' := by
  have hmm := @run_makeMap Try.prog 63 w
  have m0 : (w.alloc (.map #[] 0)).heap[w.heap.size]? = some (.map #[] 0) := Go.Deep.blk_alloc_new _ _
  obtain ⟨W1, r1, m1, b1⟩ := run_ins (w.alloc (.map #[] 0)) w.heap.size _ _ m0 17 (.func (.func 55) #[.pointer (some ⟨R, 0, none⟩)] #[]) (by simp)
  obtain ⟨W2, r2, m2, b2⟩ := run_ins W1 w.heap.size _ _ m1 18 (.func (.func 56) #[.pointer (some ⟨R, 0, none⟩)] #[]) (by simp)
  obtain ⟨W3, r3, m3, b3⟩ := run_ins W2 w.heap.size _ _ m2 22 (.func (.func 56) #[.pointer (some ⟨R, 0, none⟩)] #[]) (by simp)
  obtain ⟨W4, r4, m4, b4⟩ := run_ins W3 w.heap.size _ _ m3 23 (.func (.func 56) #[.pointer (some ⟨R, 0, none⟩)] #[]) (by simp)
  obtain ⟨W5, r5, m5, b5⟩ := run_ins W4 w.heap.size _ _ m4 34 (.func (.func 57) #[.pointer (some ⟨R, 0, none⟩)] #[]) (by simp)
  have B1 := Lib.hid (((((bel1 w _).trans (b1 _ (Nat.le_refl _))).trans (b2 _ (Nat.le_refl _))).trans (b3 _ (Nat.le_refl _))).trans (b4 _ (Nat.le_refl _)) |>.trans (b5 _ (Nat.le_refl _)))
  have M5 := Lib.hid m5
  clear m0 m1 m2 m3 m4 m5 b1 b2 b3 b4 b5
  go_enter Try.func39, Try.ntmps39
  go_wp2
  go_ret
  exact ⟨rfl, M5.out, B1.out⟩
end Go.Proofs.Ytmcnanoamgkljaa
/- A message in a variable of its own. -/
namespace Go.Proofs.Ytmcnanoamgkljaa
set_option linter.unusedVariables false
open Go.RowKit

/-- Block X is a variable that holds a message. -/
def MB (w : World) (X : Nat) (v0 v1 v2 v3 v4 v5 v6 v7 v8 : Value) : Prop := w.heap[X]? = some (.cells #[v0, v1, v2, v3, v4, v5, v6, v7, v8] 27 (0, 0))
namespace MB
variable {w w' : World} {X R : Nat} {v0 v1 v2 v3 v4 v5 v6 v7 v8 : Value}
theorem lt (h : MB w X v0 v1 v2 v3 v4 v5 v6 v7 v8) : X < w.heap.size := (Array.getElem?_eq_some_iff.1 h).1
theorem cells (h : MB w X v0 v1 v2 v3 v4 v5 v6 v7 v8) : w.cell? ⟨X, 0, none⟩ = some v0 ∧ w.cell? ⟨X, 1, none⟩ = some v1 ∧ w.cell? ⟨X, 2, none⟩ = some v2 ∧ w.cell? ⟨X, 3, none⟩ = some v3 ∧ w.cell? ⟨X, 4, none⟩ = some v4 ∧ w.cell? ⟨X, 5, none⟩ = some v5 ∧ w.cell? ⟨X, 6, none⟩ = some v6 ∧ w.cell? ⟨X, 7, none⟩ = some v7 ∧ w.cell? ⟨X, 8, none⟩ = some v8 ∧ ∀ j, w.frozen? ⟨X, j, none⟩ = false := by
  have h' : w.heap[X]? = some (.cells #[v0, v1, v2, v3, v4, v5, v6, v7, v8] 27 (0, 0)) := h
  refine ⟨?_, ?_, ?_, ?_, ?_, ?_, ?_, ?_, ?_, fun j => ?_⟩
  case refine_10 => simp [World.frozen?, h']
  all_goals simp [World.cell?, h']
theorem keep (h : MB w X v0 v1 v2 v3 v4 v5 v6 v7 v8) (e : w'.heap[X]? = w.heap[X]?) : MB w' X v0 v1 v2 v3 v4 v5 v6 v7 v8 := e.trans h
theorem below (h : MB w X v0 v1 v2 v3 v4 v5 v6 v7 v8) {B : Nat} (hb : Below B w w') (hX : X < B) : MB w' X v0 v1 v2 v3 v4 v5 v6 v7 v8 := h.keep (hb.block X hX)
theorem but (h : MB w X v0 v1 v2 v3 v4 v5 v6 v7 v8) (hb : But1 R w w') (hne : X ≠ R) : MB w' X v0 v1 v2 v3 v4 v5 v6 v7 v8 := h.keep (hb.block X h.lt hne)
theorem new (w : World) (v0 v1 v2 v3 v4 v5 v6 v7 v8 : Value) : MB (w.alloc (.cells #[v0, v1, v2, v3, v4, v5, v6, v7, v8] 27)) w.heap.size v0 v1 v2 v3 v4 v5 v6 v7 v8 := Go.Deep.blk_alloc_new _ _
theorem set0 (h : MB w X v0 v1 v2 v3 v4 v5 v6 v7 v8) (u : Value) : MB (w.setCell ⟨X, 0, none⟩ u) X u v1 v2 v3 v4 v5 v6 v7 v8 := set_cells (j := 0) (v := u) h
theorem set1 (h : MB w X v0 v1 v2 v3 v4 v5 v6 v7 v8) (u : Value) : MB (w.setCell ⟨X, 1, none⟩ u) X v0 u v2 v3 v4 v5 v6 v7 v8 := set_cells (j := 1) (v := u) h
theorem set2 (h : MB w X v0 v1 v2 v3 v4 v5 v6 v7 v8) (u : Value) : MB (w.setCell ⟨X, 2, none⟩ u) X v0 v1 u v3 v4 v5 v6 v7 v8 := set_cells (j := 2) (v := u) h
theorem set3 (h : MB w X v0 v1 v2 v3 v4 v5 v6 v7 v8) (u : Value) : MB (w.setCell ⟨X, 3, none⟩ u) X v0 v1 v2 u v4 v5 v6 v7 v8 := set_cells (j := 3) (v := u) h
theorem set4 (h : MB w X v0 v1 v2 v3 v4 v5 v6 v7 v8) (u : Value) : MB (w.setCell ⟨X, 4, none⟩ u) X v0 v1 v2 v3 u v5 v6 v7 v8 := set_cells (j := 4) (v := u) h
theorem set5 (h : MB w X v0 v1 v2 v3 v4 v5 v6 v7 v8) (u : Value) : MB (w.setCell ⟨X, 5, none⟩ u) X v0 v1 v2 v3 v4 u v6 v7 v8 := set_cells (j := 5) (v := u) h
theorem set6 (h : MB w X v0 v1 v2 v3 v4 v5 v6 v7 v8) (u : Value) : MB (w.setCell ⟨X, 6, none⟩ u) X v0 v1 v2 v3 v4 v5 u v7 v8 := set_cells (j := 6) (v := u) h
theorem set7 (h : MB w X v0 v1 v2 v3 v4 v5 v6 v7 v8) (u : Value) : MB (w.setCell ⟨X, 7, none⟩ u) X v0 v1 v2 v3 v4 v5 v6 u v8 := set_cells (j := 7) (v := u) h
theorem set8 (h : MB w X v0 v1 v2 v3 v4 v5 v6 v7 v8) (u : Value) : MB (w.setCell ⟨X, 8, none⟩ u) X v0 v1 v2 v3 v4 v5 v6 v7 u := set_cells (j := 8) (v := u) h
theorem store (h : MB w X v0 v1 v2 v3 v4 v5 v6 v7 v8) (u0 u1 u2 u3 u4 u5 u6 u7 u8 : Value) : MB ((((((((((w).setCell ⟨X, 0, none⟩ u0).setCell ⟨X, 1, none⟩ u1).setCell ⟨X, 2, none⟩ u2).setCell ⟨X, 3, none⟩ u3).setCell ⟨X, 4, none⟩ u4).setCell ⟨X, 5, none⟩ u5).setCell ⟨X, 6, none⟩ u6).setCell ⟨X, 7, none⟩ u7).setCell ⟨X, 8, none⟩ u8) X u0 u1 u2 u3 u4 u5 u6 u7 u8 := ((((((((h.set0 u0).set1 u1).set2 u2).set3 u3).set4 u4).set5 u5).set6 u6).set7 u7).set8 u8
theorem load {k0 k1 k2 k3 k5 k6 : Int} {k4 : Bool} {a7 a8 : Option Addr} {n7 c7 n8 c8 : Nat} (h : MB w X (.int .u8 k0) (.int .i64 k1) (.int .u8 k2) (.int .u32 k3) (.bool k4) (.int .u8 k5) (.int .u8 k6) (.slice a7 n7 c7) (.slice a8 n8 c8)) :
    (loadVar 27 ⟨X, 0, none⟩).run Try.prog w = .ok (.agg #[.int .u8 k0, .int .i64 k1, .int .u8 k2, .int .u32 k3, .bool k4, .int .u8 k5, .int .u8 k6, .slice a7 n7 c7, .slice a8 n8 c8]) w := by
  obtain ⟨c0, c1, c2, c3, c4, c5, c6, c7, c8, _⟩ := h.cells
  clear h
  go_simp
end MB
theorem bel_store {B X : Nat} {w w' : World} (h : Below B w w') (hX : B ≤ X) (u0 u1 u2 u3 u4 u5 u6 u7 u8 : Value) : Below B w ((((((((((w').setCell ⟨X, 0, none⟩ u0).setCell ⟨X, 1, none⟩ u1).setCell ⟨X, 2, none⟩ u2).setCell ⟨X, 3, none⟩ u3).setCell ⟨X, 4, none⟩ u4).setCell ⟨X, 5, none⟩ u5).setCell ⟨X, 6, none⟩ u6).setCell ⟨X, 7, none⟩ u7).setCell ⟨X, 8, none⟩ u8) :=
  bel_set (bel_set (bel_set (bel_set (bel_set (bel_set (bel_set (bel_set (bel_set (h) hX _) hX _) hX _) hX _) hX _) hX _) hX _) hX _) hX _
theorem store_other {w : World} {X Y : Nat} (h : Y ≠ X) (u0 u1 u2 u3 u4 u5 u6 u7 u8 : Value) : ((((((((((w).setCell ⟨X, 0, none⟩ u0).setCell ⟨X, 1, none⟩ u1).setCell ⟨X, 2, none⟩ u2).setCell ⟨X, 3, none⟩ u3).setCell ⟨X, 4, none⟩ u4).setCell ⟨X, 5, none⟩ u5).setCell ⟨X, 6, none⟩ u6).setCell ⟨X, 7, none⟩ u7).setCell ⟨X, 8, none⟩ u8).heap[Y]? = w.heap[Y]? := by
  rw [set_other h, set_other h, set_other h, set_other h, set_other h, set_other h, set_other h, set_other h, set_other h]
/-- A return of a variable's value and a number. -/
theorem ret_cell2 {P : Program} {fn : Func} {R : Ending → World → Prop} {a : Act} {w : World} {p u : Nat} {ty : TypeId} {q : Addr} {x : Value} (hr : fn.results = #[.cell p ty, .tmp u]) (hd : a.defers = []) (hp : a.tmps.getD p undef = .pointer (some q))
    (hl : (loadVar ty q).run P w = .ok x w) (hR : R (.returned (.tuple #[x, a.tmps.getD u undef])) w) : bodyPost P fn R .ret a w := by
  refine ⟨hd, _, ?_, hR⟩
  have hp' : a.tmps[p]?.getD undef = .pointer (some q) := by simpa using hp
  simp only [results, hr]
  simp [Result.andThen, asAddr, hp', hl]
/-- A new reader. -/
theorem rd_new {w : World} {b0 o lc : Nat} (s : St) (c2 c3 c4 c5 c6 c7 c8 c9 c10 c11 : Value) (hb : b0 < w.heap.size) (hc : s.left.length ≤ lc) (hl : ∀ k, k < s.left.length → w.cell? ⟨b0, o + k, none⟩ = some (.int .u8 (s.left.getD k 0))) :
    RdAt (w.alloc (.cells #[.slice (some ⟨b0, o, none⟩) s.left.length lc, .bool s.short, c2, c3, c4, c5, c6, c7, c8, c9, c10, c11] 61)) w.heap.size b0 s c2 c3 c4 c5 c6 c7 c8 c9 c10 c11 := by
  refine ⟨o, lc, Go.Deep.blk_alloc_new _ _, hc, hb, fun k hk => ?_⟩
  rw [World.cell?_alloc_lt _ _ _ (by show b0 < _; exact hb)]
  exact hl k hk
end Go.Proofs.Ytmcnanoamgkljaa
/- The message of bytes (igmp.Decode). -/
namespace Go.Proofs.Ytmcnanoamgkljaa
set_option linter.unusedVariables false
open Go.RowKit

theorem m0_ok : m0.ok := by simp [m0, Msg.ok]
theorem ms0 (w : World) : Ms w m0 none none := ⟨As.nil _ _, Rs.nil _ _, m0_ok⟩
/-- What was read is within bounds. -/
def Fit (e : En) : Prop := e.m.ok ∧ IsA e.m.srcs ∧ (∀ r ∈ e.m.recs, RecOk r ∧ r.srcs.length ≤ 65535)
theorem byte_at {xs : List Int} (h : IsB xs) (k : Nat) : 0 ≤ xs.getD k 0 ∧ xs.getD k 0 ≤ 255 := getD_bd h k
theorem isA_nil : IsA [] := fun k h => absurd h (by simp)
theorem fit_group {xs : List Int} (h : IsB xs) {s : St} (hs : IsB s.left) (st : St) (wr : Bool) (v : Int) (hv : 0 ≤ v ∧ v ≤ 3) : Fit ⟨st, wr, { mBegin xs with ver := v, grp := (raddr s).1 }⟩ := by
  have h0 := byte_at h 0
  have h1 := byte_at h 1
  have h2 := (raddr_B hs).1
  refine ⟨⟨h0, ?_, h1, h2, ?_, ?_, ?_, ?_⟩, isA_nil, fun r hr => ?_⟩
  · simp only; omega
  · simp [mBegin, m0]
  · simp [mBegin, m0]
  · simp [mBegin, m0]
  · simp [mBegin, m0]
  · simp [mBegin, m0] at hr
theorem fit_plain {xs : List Int} (h : IsB xs) (st : St) (wr : Bool) (v : Int) (hv : 0 ≤ v ∧ v ≤ 3) : Fit ⟨st, wr, { mBegin xs with ver := v }⟩ := by
  have h0 := byte_at h 0
  have h1 := byte_at h 1
  refine ⟨⟨h0, ?_, h1, ?_, ?_, ?_, ?_, ?_⟩, isA_nil, fun r hr => ?_⟩
  · simp only; omega
  · simp [mBegin, m0]
  · simp [mBegin, m0]
  · simp [mBegin, m0]
  · simp [mBegin, m0]
  · simp [mBegin, m0]
  · simp [mBegin, m0] at hr
theorem fit_beside {xs : List Int} (h : IsB xs) {s : St} (hs : IsB s.left) (g : Int) (hg : 0 ≤ g ∧ g ≤ 4294967295) (st : St) (wr : Bool) : Fit ⟨st, wr, (goBeside { mBegin xs with ver := 3, grp := g } s).1⟩ := by
  have h0 := byte_at h 0
  have h1 := byte_at h 1
  have a1 := rone_B hs
  have a2 := rone_B a1.2
  have a3 := rnum_B a2.2
  have a4 := raddrs_B (rnum (rone (rone s).2).2).1 a3.2.1
  refine ⟨⟨h0, ?_, h1, hg, ?_, a2.1, ?_, ?_⟩, a4.1, fun r hr => ?_⟩
  · simp [goBeside]
  · simp only [goBeside]; omega
  · simp only [goBeside]; have := a3.1; have := a4.2.2; omega
  · simp [goBeside, mBegin, m0]
  · simp [goBeside, mBegin, m0] at hr
theorem fit_report {xs : List Int} (h : IsB xs) {s : St} (hs : IsB s.left) : Fit (goReport (mBegin xs) s) := by
  have h0 := byte_at h 0
  have h1 := byte_at h 1
  have a1 := rnum_B hs
  have a2 := rnum_B a1.2.1
  have a3 := rrecs_B (rnum (rnum s).2).1 a2.2.1
  refine ⟨⟨h0, ?_, h1, ?_, ?_, ?_, ?_, ?_⟩, isA_nil, fun r hr => ?_⟩
  · simp [goReport, mBegin, m0]
  · simp [goReport, mBegin, m0]
  · simp [goReport, mBegin, m0]
  · simp [goReport, mBegin, m0]
  · simp [goReport, mBegin, m0]
  · simp [goReport, mBegin, m0]; have := a2.1; have := a3.2.2; omega
  · simp [goReport, mBegin, m0] at hr; exact a3.1 r hr
/-- A message whose rows lie above block X. -/
def MsUp (X : Nat) (wx : World) (m : Msg) (sa ra : Option Addr) : Prop := ∀ wy : World, wx.heap.size ≤ wy.heap.size → (∀ q, X < q → q < wx.heap.size → wy.heap[q]? = wx.heap[q]?) → Ms wy m sa ra
theorem MsUp.self {X : Nat} {wx : World} {m : Msg} {sa ra : Option Addr} (h : MsUp X wx m sa ra) : Ms wx m sa ra := h wx (Nat.le_refl _) fun _ _ _ => rfl
theorem RowR.keep {w w' : World} {B n cap : Nat} {a : Option Addr} {rs : List Rec} {cs : List Value} (h : RowR w B a n cap rs cs) (hk : ∀ q, B ≤ q → q < w.heap.size → w'.heap[q]? = w.heap[q]?) : RowR w' B a n cap rs cs := by
  refine ⟨⟨h.1.1, ?_⟩, h.2.1, fun k r hr => ?_⟩
  · rcases h.1.2 with e | ⟨g, c, cur, e, h1, h2, h3⟩
    · exact .inl e
    · exact .inr ⟨g, c, cur, e, h1, (hk g h1 (Array.getElem?_eq_some_iff.1 h2).1).trans h2, h3⟩
  · obtain ⟨ak, ck, h1, h2, h3, h4⟩ := h.2.2 k r hr
    exact ⟨ak, ck, h1, h2, h3, h4.keep fun g cur hB hg => hk g hB (Array.getElem?_eq_some_iff.1 hg).1⟩
theorem up_nil {X : Nat} {wx : World} {m : Msg} (ho : m.ok) (hs : m.srcs = []) (hr : m.recs = []) : MsUp X wx m none none := fun wy _ _ => ⟨by rw [hs]; exact As.nil _ _, by rw [hr]; exact Rs.nil _ _, ho⟩
theorem up_srcs {X B : Nat} {wx : World} {m : Msg} {a : Option Addr} (ho : m.ok) (hs : AsO wx B a m.srcs) (hX : X < B) (hA : IsA m.srcs) (hr : m.recs = []) : MsUp X wx m a none :=
  fun wy _ hy => ⟨(hs.keep fun g cur hB hg => hy g (by omega) (Array.getElem?_eq_some_iff.1 hg).1).as hA, by rw [hr]; exact Rs.nil _ _, ho⟩
theorem up_recs {X B n cap : Nat} {wx : World} {m : Msg} {a : Option Addr} {cs : List Value} (ho : m.ok) (hs : m.srcs = []) (hr : RowR wx B a n cap m.recs cs) (hX : X < B) (hA : ∀ r ∈ m.recs, RecOk r ∧ r.srcs.length ≤ 65535) : MsUp X wx m none a :=
  fun wy _ hy => ⟨by rw [hs]; exact As.nil _ _, (hr.keep fun q hB hq => hy q (by omega) hq).rs hA, ho⟩
/-- The reader at its end. -/
def EnAt (w wx : World) (X R b0 : Nat) (e : En) : Prop :=
  ∃ sa sc ra rc, RdAt wx R b0 e.st (.bool e.wrong) (.int .u8 e.m.kind) (.int .i64 e.m.ver) (.int .u8 e.m.code) (.int .u32 e.m.grp) (.bool e.m.quiet) (.int .u8 e.m.rob) (.int .u8 e.m.every) (.slice sa e.m.srcs.length sc) (.slice ra e.m.recs.length rc) ∧ MsUp X wx e.m sa ra ∧ MB wx X (.int .u8 0) (.int .i64 0) (.int .u8 0) (.int .u32 0) (.bool false) (.int .u8 0) (.int .u8 0) (.slice none 0 0) (.slice none 0 0) ∧ Below w.heap.size w wx

theorem gDec_A (a : Option Addr) (n c : Nat) (xs : List Int) (w : World) (hx : xs.length = n) (h8 : n < 8) :
    Calls Try.prog 20 #[.slice a n c] w fun e w' => ∃ sa sc ra rc, e = .returned (.tuple #[.agg #[.int .u8 (decM xs).kind, .int .i64 (decM xs).ver, .int .u8 (decM xs).code, .int .u32 (decM xs).grp, .bool (decM xs).quiet, .int .u8 (decM xs).rob, .int .u8 (decM xs).every, .slice sa (decM xs).srcs.length sc, .slice ra (decM xs).recs.length rc], .int .i64 (decE xs)]) ∧ Ms w' (decM xs) sa ra ∧ Below w.heap.size w w' := by
  have E : decE xs = 3 := by unfold decE; rw [if_pos (by omega)]
  have M : decM xs = m0 := by unfold decM; rw [E]; rfl
  rw [E, M]
  clear E M hx
  have HX := Lib.hid (MB.new w (.int .u8 0) (.int .i64 0) (.int .u8 0) (.int .u32 0) (.bool false) (.int .u8 0) (.int .u8 0) (.slice none 0 0) (.slice none 0 0))
  have B := Lib.hid (bel1 w (.cells #[.int .u8 0, .int .i64 0, .int .u8 0, .int .u32 0, .bool false, .int .u8 0, .int .u8 0, .slice none 0 0, .slice none 0 0] 27))
  go_enter Try.func20, Try.ntmps20
  go_wp2
  refine ret_cell2 rfl rfl rfl (HX.out.load) ?_
  exact ⟨none, 0, none, 0, rfl, ms0 _, B.out⟩

set_option maxHeartbeats 1000000 in
theorem gDec_B (a : Option Addr) (n c : Nat) (xs : List Int) (w : World) (hx : xs.length = n) (hn : n ≤ 1000000) (h8 : ¬ n < 8) (hb : Bs w a xs) (hs : ofs xs ≠ 0) :
    Calls Try.prog 20 #[.slice a n c] w fun e w' => ∃ sa sc ra rc, e = .returned (.tuple #[.agg #[.int .u8 (decM xs).kind, .int .i64 (decM xs).ver, .int .u8 (decM xs).code, .int .u32 (decM xs).grp, .bool (decM xs).quiet, .int .u8 (decM xs).rob, .int .u8 (decM xs).every, .slice sa (decM xs).srcs.length sc, .slice ra (decM xs).recs.length rc], .int .i64 (decE xs)]) ∧ Ms w' (decM xs) sa ra ∧ Below w.heap.size w w' := by
  have E : decE xs = 4 := by unfold decE; rw [if_neg (by omega), if_pos hs]
  have M : decM xs = m0 := by unfold decM; rw [E]; rfl
  rw [E, M]
  have D : Hid ((ofs xs == 0) = false) := Lib.hid (beq_eq_false_iff_ne.2 hs)
  have HXS := Lib.hid hx
  have HB := Lib.hid hb
  clear E M hx hs hb
  have HX := Lib.hid (MB.new w (.int .u8 0) (.int .i64 0) (.int .u8 0) (.int .u32 0) (.bool false) (.int .u8 0) (.int .u8 0) (.slice none 0 0) (.slice none 0 0))
  have B := Lib.hid (bel1 w (.cells #[.int .u8 0, .int .i64 0, .int .u8 0, .int .u32 0, .bool false, .int .u8 0, .int .u8 0, .slice none 0 0, .slice none 0 0] 27))
  go_enter Try.func20, Try.ntmps20
  go_wp2_with (go_at_call 38; refine (sWhole a n c xs _ HXS.out hn (bs_below HB.out B.out)).mono ?_; rintro e w1 ⟨rfl, hb1⟩; rw [D.out]; have X1 := Lib.hid (HX.out.below hb1 (by simp)); obtain ⟨k0, k1, k2, k3, k4, k5, k6, k7, k8, kf⟩ := X1.out.cells; have f0 := kf 0; have f1 := kf 1; have f2 := kf 2; have f3 := kf 3; have f4 := kf 4; have f5 := kf 5; have f6 := kf 6; have f7 := kf 7; have f8 := kf 8; have B1 := Lib.hid (bel_up B.out hb1); clear hb1 kf)
  refine ret_cell2 rfl rfl rfl ((X1.out.store (.int .u8 0) (.int .i64 0) (.int .u8 0) (.int .u32 0) (.bool false) (.int .u8 0) (.int .u8 0) (.slice none 0 0) (.slice none 0 0)).load) ?_
  exact ⟨none, 0, none, 0, rfl, ms0 _, bel_store B1.out (Nat.le_refl _) _ _ _ _ _ _ _ _ _⟩
end Go.Proofs.Ytmcnanoamgkljaa
