/- A place hears a record; which records a message is taken as; a place at which an older version was heard. -/
import Derived.Test.YtiabbkjmgaemaaaGreatDB0
import Derived.Test.YtiabbkjmgaemaaaGreatDB1
import Derived.Test.YtiabbkjmgaemaaaGreatDB2
import Derived.Test.YtiabbkjmgaemaaaGreatDB3
import Derived.Test.YtiabbkjmgaemaaaGreatDB4
import Derived.Test.YtiabbkjmgaemaaaGreatDB5
import Derived.Test.YtiabbkjmgaemaaaGreatDB6
import Derived.Test.YtiabbkjmgaemaaaGreatDB7
import Derived.Test.YtiabbkjmgaemaaaGreatDB8
import Derived.Test.YtiabbkjmgaemaaaGreatDB9
import Derived.Test.YtiabbkjmgaemaaaGreatDB10
import Derived.Test.YtiabbkjmgaemaaaGreatDB11
import Derived.Test.YtiabbkjmgaemaaaGreatDB12
import Derived.Test.YtiabbkjmgaemaaaGreatDB13
import Derived.Test.YtiabbkjmgaemaaaGreatDB14
import Derived.Test.YtiabbkjmgaemaaaGreatDB15
import Derived.Test.YtiabbkjmgaemaaaGreatDB16
namespace Go.Proofs.YtiabbkjmgaemaaaGreat
set_option linter.unusedVariables false
open Go.RowKit

def letGo (v1 v2 ty : Int) : Bool := (decide (0 < v1) && decide (ty = 3)) || ((decide (0 < v1) || decide (0 < v2)) && decide (ty = 6))
def srcsP (v1 v2 ty : Int) (xs : List Int) : List Int := if (decide (0 < v1) || decide (0 < v2)) && decide (ty = 4) then [] else xs
/-- What a place's sources come to by a record. -/
def hrP (kp la v1 v2 g : Int) (ex : Bool) (left : Int) (s : List Hd) (ty : Int) (xs : List Int) : Hr :=
  if letGo v1 v2 ty then ⟨ex, left, s, [], 0⟩ else hearP g kp la ex left s ty (srcsP v1 v2 ty xs)
theorem QOk.ty {w w' : World} {r : Qr} (h : QOk w r) {X : Nat} {cs : Array Value} {T : TypeId} {p : Nat × Nat} (hX : w.heap[X]? = some (.cells cs T p)) (hne2 : T ≠ 25) (hb : But1 X w w') : QOk w' r := ⟨h.1, h.2.1, vown_ty h.2.2 hX hne2 hb⟩
theorem Qs.ty {w w' : World} {B : Nat} {aa : Option Addr} {cc : Nat} {rs : List Qr} (h : Qs w B aa cc rs) {X : Nat} {cs : Array Value} {T : TypeId} {p : Nat × Nat} (hX : w.heap[X]? = some (.cells cs T p)) (hne : T ≠ 73) (hne2 : T ≠ 25) (hb : But1 X w w') : Qs w' B aa cc rs :=
  ⟨vown_ty h.1 hX hne hb, fun r hr => (h.2 r hr).ty hX hne2 hb⟩
/-- What is handed back of a place that heard. -/
def OutP92 (w : World) (e : Ending) (w' : World) (po v1 v2 g : Int) (r : Hr) : Prop :=
  (∃ a c aa cc rs, e = .returned (.tuple #[.agg #[.int .i64 po, .int .i64 v1, .int .i64 v2, .int .u32 g, .bool r.ex, .int .i64 r.left, .slice a r.s.length c], .slice aa (List.length rs) cc, .int .i64 r.er]) ∧ HT w' a r.s ∧ rs.map Qr.nm = r.q ∧ Qs w' w.heap.size aa cc rs) ∧ Below w.heap.size w w'
theorem mkHearW_hear (w : World) (kp la : Int) (po v1 v2 g : Int) (ex : Bool) (left : Int) (a : Option Addr) (n c : Nat) (ty rg : Int) (b : Option Addr) (ln lc : Nat) (W : World)
    (hW : W = ((((w.alloc (.cells #[.int .i64 kp, .int .i64 la] 23)).alloc (.cells #[.int .i64 po, .int .i64 v1, .int .i64 v2, .int .u32 g, .bool ex, .int .i64 left, .slice a n c] 77)).alloc (.cells #[.int .u8 ty, .int .u32 rg, .slice b ln lc] 102)).alloc (.cells #[.int .i64 0, .int .i64 0, .int .i64 0, .int .u32 0, .bool false, .int .i64 0, .slice none 0 0] 77))) :
    TV W w.heap.size kp la ∧ PV W (w.heap.size + 1) po v1 v2 g ex left a n c ∧ RV W (w.heap.size + 2) ty rg b ln lc ∧ PV W (w.heap.size + 3) 0 0 0 0 false 0 none 0 0 ∧ Below w.heap.size w W ∧ W.heap.size = w.heap.size + 4 := by
  subst hW
  have e0 : w.heap.size = w.heap.size := rfl
  have e1 : (w.alloc (.cells #[.int .i64 kp, .int .i64 la] 23)).heap.size = w.heap.size + 1 := by rw [World.size_alloc]
  have e2 : ((w.alloc (.cells #[.int .i64 kp, .int .i64 la] 23)).alloc (.cells #[.int .i64 po, .int .i64 v1, .int .i64 v2, .int .u32 g, .bool ex, .int .i64 left, .slice a n c] 77)).heap.size = w.heap.size + 2 := by rw [World.size_alloc, e1]
  have e3 : (((w.alloc (.cells #[.int .i64 kp, .int .i64 la] 23)).alloc (.cells #[.int .i64 po, .int .i64 v1, .int .i64 v2, .int .u32 g, .bool ex, .int .i64 left, .slice a n c] 77)).alloc (.cells #[.int .u8 ty, .int .u32 rg, .slice b ln lc] 102)).heap.size = w.heap.size + 3 := by rw [World.size_alloc, e2]
  have e4 : ((((w.alloc (.cells #[.int .i64 kp, .int .i64 la] 23)).alloc (.cells #[.int .i64 po, .int .i64 v1, .int .i64 v2, .int .u32 g, .bool ex, .int .i64 left, .slice a n c] 77)).alloc (.cells #[.int .u8 ty, .int .u32 rg, .slice b ln lc] 102)).alloc (.cells #[.int .i64 0, .int .i64 0, .int .i64 0, .int .u32 0, .bool false, .int .i64 0, .slice none 0 0] 77)).heap.size = w.heap.size + 4 := by rw [World.size_alloc, e3]
  have u0 := TV.new w kp la
  have u1 := PV.new (w.alloc (.cells #[.int .i64 kp, .int .i64 la] 23)) po v1 v2 g ex left a n c
  rw [e1] at u1
  have u2 := RV.new ((w.alloc (.cells #[.int .i64 kp, .int .i64 la] 23)).alloc (.cells #[.int .i64 po, .int .i64 v1, .int .i64 v2, .int .u32 g, .bool ex, .int .i64 left, .slice a n c] 77)) ty rg b ln lc
  rw [e2] at u2
  have u3 := PV.new (((w.alloc (.cells #[.int .i64 kp, .int .i64 la] 23)).alloc (.cells #[.int .i64 po, .int .i64 v1, .int .i64 v2, .int .u32 g, .bool ex, .int .i64 left, .slice a n c] 77)).alloc (.cells #[.int .u8 ty, .int .u32 rg, .slice b ln lc] 102)) 0 0 0 0 false 0 none 0 0
  rw [e3] at u3
  exact ⟨(((u0.keep _).keep _).keep _), ((u1.keep _).keep _), (u2.keep _), u3, (((((Below.refl _ w).alloc (by exact Nat.le_refl _) _).alloc (by rw [e1]; omega) _).alloc (by rw [e2]; omega) _).alloc (by rw [e3]; omega) _), e4⟩
theorem mkHearW_nil (w : World) (kp la : Int) (po v1 v2 g : Int) (ex : Bool) (left : Int) (a : Option Addr) (n c : Nat) (ty rg : Int) (b : Option Addr) (ln lc : Nat) (W : World)
    (hW : W = ((((w.alloc (.cells #[.int .i64 kp, .int .i64 la] 23)).alloc (.cells #[.int .i64 po, .int .i64 v1, .int .i64 v2, .int .u32 g, .bool ex, .int .i64 left, .slice a n c] 77)).alloc (.cells #[.int .u8 ty, .int .u32 rg, .slice none 0 0] 102)).alloc (.cells #[.int .i64 0, .int .i64 0, .int .i64 0, .int .u32 0, .bool false, .int .i64 0, .slice none 0 0] 77))) :
    TV W w.heap.size kp la ∧ PV W (w.heap.size + 1) po v1 v2 g ex left a n c ∧ RV W (w.heap.size + 2) ty rg none 0 0 ∧ PV W (w.heap.size + 3) 0 0 0 0 false 0 none 0 0 ∧ Below w.heap.size w W ∧ W.heap.size = w.heap.size + 4 := by
  subst hW
  have e0 : w.heap.size = w.heap.size := rfl
  have e1 : (w.alloc (.cells #[.int .i64 kp, .int .i64 la] 23)).heap.size = w.heap.size + 1 := by rw [World.size_alloc]
  have e2 : ((w.alloc (.cells #[.int .i64 kp, .int .i64 la] 23)).alloc (.cells #[.int .i64 po, .int .i64 v1, .int .i64 v2, .int .u32 g, .bool ex, .int .i64 left, .slice a n c] 77)).heap.size = w.heap.size + 2 := by rw [World.size_alloc, e1]
  have e3 : (((w.alloc (.cells #[.int .i64 kp, .int .i64 la] 23)).alloc (.cells #[.int .i64 po, .int .i64 v1, .int .i64 v2, .int .u32 g, .bool ex, .int .i64 left, .slice a n c] 77)).alloc (.cells #[.int .u8 ty, .int .u32 rg, .slice none 0 0] 102)).heap.size = w.heap.size + 3 := by rw [World.size_alloc, e2]
  have e4 : ((((w.alloc (.cells #[.int .i64 kp, .int .i64 la] 23)).alloc (.cells #[.int .i64 po, .int .i64 v1, .int .i64 v2, .int .u32 g, .bool ex, .int .i64 left, .slice a n c] 77)).alloc (.cells #[.int .u8 ty, .int .u32 rg, .slice none 0 0] 102)).alloc (.cells #[.int .i64 0, .int .i64 0, .int .i64 0, .int .u32 0, .bool false, .int .i64 0, .slice none 0 0] 77)).heap.size = w.heap.size + 4 := by rw [World.size_alloc, e3]
  have u0 := TV.new w kp la
  have u1 := PV.new (w.alloc (.cells #[.int .i64 kp, .int .i64 la] 23)) po v1 v2 g ex left a n c
  rw [e1] at u1
  have u2 := RV.new ((w.alloc (.cells #[.int .i64 kp, .int .i64 la] 23)).alloc (.cells #[.int .i64 po, .int .i64 v1, .int .i64 v2, .int .u32 g, .bool ex, .int .i64 left, .slice a n c] 77)) ty rg none 0 0
  rw [e2] at u2
  have u3 := PV.new (((w.alloc (.cells #[.int .i64 kp, .int .i64 la] 23)).alloc (.cells #[.int .i64 po, .int .i64 v1, .int .i64 v2, .int .u32 g, .bool ex, .int .i64 left, .slice a n c] 77)).alloc (.cells #[.int .u8 ty, .int .u32 rg, .slice none 0 0] 102)) 0 0 0 0 false 0 none 0 0
  rw [e3] at u3
  exact ⟨(((u0.keep _).keep _).keep _), ((u1.keep _).keep _), (u2.keep _), u3, (((((Below.refl _ w).alloc (by exact Nat.le_refl _) _).alloc (by rw [e1]; omega) _).alloc (by rw [e2]; omega) _).alloc (by rw [e3]; omega) _), e4⟩
theorem mkHearW_lg (w : World) (kp la : Int) (po v1 v2 g : Int) (ex : Bool) (left : Int) (a : Option Addr) (n c : Nat) (ty rg : Int) (b : Option Addr) (ln lc : Nat) (W : World)
    (hW : W = ((((w.alloc (.cells #[.int .i64 kp, .int .i64 la] 23)).alloc (.cells #[.int .i64 po, .int .i64 v1, .int .i64 v2, .int .u32 g, .bool ex, .int .i64 left, .slice a n c] 77)).alloc (.cells #[.int .u8 ty, .int .u32 rg, .slice b ln lc] 102)).alloc (.cells #[.int .i64 po, .int .i64 v1, .int .i64 v2, .int .u32 g, .bool ex, .int .i64 left, .slice a n c] 77))) :
    TV W w.heap.size kp la ∧ PV W (w.heap.size + 1) po v1 v2 g ex left a n c ∧ RV W (w.heap.size + 2) ty rg b ln lc ∧ PV W (w.heap.size + 3) po v1 v2 g ex left a n c ∧ Below w.heap.size w W ∧ W.heap.size = w.heap.size + 4 := by
  subst hW
  have e0 : w.heap.size = w.heap.size := rfl
  have e1 : (w.alloc (.cells #[.int .i64 kp, .int .i64 la] 23)).heap.size = w.heap.size + 1 := by rw [World.size_alloc]
  have e2 : ((w.alloc (.cells #[.int .i64 kp, .int .i64 la] 23)).alloc (.cells #[.int .i64 po, .int .i64 v1, .int .i64 v2, .int .u32 g, .bool ex, .int .i64 left, .slice a n c] 77)).heap.size = w.heap.size + 2 := by rw [World.size_alloc, e1]
  have e3 : (((w.alloc (.cells #[.int .i64 kp, .int .i64 la] 23)).alloc (.cells #[.int .i64 po, .int .i64 v1, .int .i64 v2, .int .u32 g, .bool ex, .int .i64 left, .slice a n c] 77)).alloc (.cells #[.int .u8 ty, .int .u32 rg, .slice b ln lc] 102)).heap.size = w.heap.size + 3 := by rw [World.size_alloc, e2]
  have e4 : ((((w.alloc (.cells #[.int .i64 kp, .int .i64 la] 23)).alloc (.cells #[.int .i64 po, .int .i64 v1, .int .i64 v2, .int .u32 g, .bool ex, .int .i64 left, .slice a n c] 77)).alloc (.cells #[.int .u8 ty, .int .u32 rg, .slice b ln lc] 102)).alloc (.cells #[.int .i64 po, .int .i64 v1, .int .i64 v2, .int .u32 g, .bool ex, .int .i64 left, .slice a n c] 77)).heap.size = w.heap.size + 4 := by rw [World.size_alloc, e3]
  have u0 := TV.new w kp la
  have u1 := PV.new (w.alloc (.cells #[.int .i64 kp, .int .i64 la] 23)) po v1 v2 g ex left a n c
  rw [e1] at u1
  have u2 := RV.new ((w.alloc (.cells #[.int .i64 kp, .int .i64 la] 23)).alloc (.cells #[.int .i64 po, .int .i64 v1, .int .i64 v2, .int .u32 g, .bool ex, .int .i64 left, .slice a n c] 77)) ty rg b ln lc
  rw [e2] at u2
  have u3 := PV.new (((w.alloc (.cells #[.int .i64 kp, .int .i64 la] 23)).alloc (.cells #[.int .i64 po, .int .i64 v1, .int .i64 v2, .int .u32 g, .bool ex, .int .i64 left, .slice a n c] 77)).alloc (.cells #[.int .u8 ty, .int .u32 rg, .slice b ln lc] 102)) po v1 v2 g ex left a n c
  rw [e3] at u3
  exact ⟨(((u0.keep _).keep _).keep _), ((u1.keep _).keep _), (u2.keep _), u3, (((((Below.refl _ w).alloc (by exact Nat.le_refl _) _).alloc (by rw [e1]; omega) _).alloc (by rw [e2]; omega) _).alloc (by rw [e3]; omega) _), e4⟩
set_option maxRecDepth 100000 in
set_option maxHeartbeats 8000000 in
theorem dHear92 (kp la : Int) (po v1 v2 g : Int) (ex : Bool) (left : Int) (a : Option Addr) (n c : Nat) (s : List Hd) (ty rg : Int) (b : Option Addr) (ln lc : Nat) (xs : List Int) (w : World)
    (hx : s.length = n) (hn : n ≤ 64) (hH : HT w a s) (hi : Inc (ad s)) (hl : xs.length = ln) (hln : ln ≤ 3000) (hA : As w b xs) (hfl : b = none → lc = 0) (hT : (1 ≤ la ∧ la ≤ 1000000) ∧ (0 ≤ kp ∧ kp ≤ 1000000) ∧ (0 ≤ left ∧ left ≤ 1000000) ∧ (0 ≤ g ∧ g ≤ 4294967295)) :
    Calls Tryz.prog 92 #[.agg #[.int .i64 kp, .int .i64 la], .agg #[.int .i64 po, .int .i64 v1, .int .i64 v2, .int .u32 g, .bool ex, .int .i64 left, .slice a n c], .agg #[.int .u8 ty, .int .u32 rg, .slice b ln lc]] w fun e w' => OutP92 w e w' po v1 v2 g (hrP kp la v1 v2 g ex left s ty xs) := by
  have HX := Lib.hid hx
  have HI := Lib.hid hi
  have HL := Lib.hid hl
  have HFL := Lib.hid hfl
  have HTT := Lib.hid hT
  replace hH := Lib.hid hH
  replace hA := Lib.hid hA
  clear hx hi hl hfl hT
  by_cases k1 : 0 < v1
  · have d1 : decide (0 < v1) = true := decide_eq_true k1
    by_cases h3 : ty = 3
    · have HR : Hid (hrP kp la v1 v2 g ex left s ty xs = ⟨ex, left, s, [], 0⟩) := Lib.hid (by unfold hrP letGo; simp [k1, h3])
      have e3 : (ty == 3) = true := by simpa using h3
      have e6 : (ty == 6) = false := by simp; omega
      have e4 : (ty == 4) = false := by simp; omega
      clear h3
      obtain ⟨w4, hw4⟩ : ∃ w4, w4 = ((((w.alloc (.cells #[.int .i64 kp, .int .i64 la] 23)).alloc (.cells #[.int .i64 po, .int .i64 v1, .int .i64 v2, .int .u32 g, .bool ex, .int .i64 left, .slice a n c] 77)).alloc (.cells #[.int .u8 ty, .int .u32 rg, .slice b ln lc] 102)).alloc (.cells #[.int .i64 po, .int .i64 v1, .int .i64 v2, .int .u32 g, .bool ex, .int .i64 left, .slice a n c] 77)) := ⟨_, rfl⟩
      obtain ⟨u0, u1, u2, u3, hb, -⟩ := mkHearW_lg w kp la po v1 v2 g ex left a n c ty rg b ln lc w4 hw4
      have V1 := Lib.hid u1
      have V3 := Lib.hid u3
      have HB := Lib.hid hb
      have HH := Lib.hid (hH.out.below hb)
      have HA := Lib.hid (hA.out.below hb)
      clear u0 u1 u2 u3 hb hH hA
      go_enter Tryz.func92, Tryz.ntmps92
      go_wp2_with fail
      rw [← hw4]
      clear hw4
      refine ret_v3 (p := 6) rfl rfl rfl V3.out.load ?_
      rw [HR.out, ← HX.out]
      exact ⟨⟨a, c, none, 0, [], rfl, HH.out, rfl, Qs.nil _ _⟩, HB.out⟩
    · by_cases h6 : ty = 6
      · have HR : Hid (hrP kp la v1 v2 g ex left s ty xs = ⟨ex, left, s, [], 0⟩) := Lib.hid (by unfold hrP letGo; simp [k1, h6])
        have e3 : (ty == 3) = false := by simpa using h3
        have e6 : (ty == 6) = true := by simpa using h6
        have e4 : (ty == 4) = false := by simp; omega
        clear h3
        clear h6
        obtain ⟨w4, hw4⟩ : ∃ w4, w4 = ((((w.alloc (.cells #[.int .i64 kp, .int .i64 la] 23)).alloc (.cells #[.int .i64 po, .int .i64 v1, .int .i64 v2, .int .u32 g, .bool ex, .int .i64 left, .slice a n c] 77)).alloc (.cells #[.int .u8 ty, .int .u32 rg, .slice b ln lc] 102)).alloc (.cells #[.int .i64 po, .int .i64 v1, .int .i64 v2, .int .u32 g, .bool ex, .int .i64 left, .slice a n c] 77)) := ⟨_, rfl⟩
        obtain ⟨u0, u1, u2, u3, hb, -⟩ := mkHearW_lg w kp la po v1 v2 g ex left a n c ty rg b ln lc w4 hw4
        have V1 := Lib.hid u1
        have V3 := Lib.hid u3
        have HB := Lib.hid hb
        have HH := Lib.hid (hH.out.below hb)
        have HA := Lib.hid (hA.out.below hb)
        clear u0 u1 u2 u3 hb hH hA
        go_enter Tryz.func92, Tryz.ntmps92
        go_wp2_with fail
        rw [← hw4]
        clear hw4
        refine ret_v3 (p := 6) rfl rfl rfl V3.out.load ?_
        rw [HR.out, ← HX.out]
        exact ⟨⟨a, c, none, 0, [], rfl, HH.out, rfl, Qs.nil _ _⟩, HB.out⟩
      · by_cases h4 : ty = 4
        · have HR : Hid (hrP kp la v1 v2 g ex left s ty xs = hearP g kp la ex left s ty []) := Lib.hid (by unfold hrP letGo srcsP; simp [k1, h4])
          have e3 : (ty == 3) = false := by simpa using h3
          have e6 : (ty == 6) = false := by simpa using h6
          have e4 : (ty == 4) = true := by simpa using h4
          clear h3
          clear h6
          clear h4
          obtain ⟨w4, hw4⟩ : ∃ w4, w4 = ((((w.alloc (.cells #[.int .i64 kp, .int .i64 la] 23)).alloc (.cells #[.int .i64 po, .int .i64 v1, .int .i64 v2, .int .u32 g, .bool ex, .int .i64 left, .slice a n c] 77)).alloc (.cells #[.int .u8 ty, .int .u32 rg, .slice none 0 0] 102)).alloc (.cells #[.int .i64 0, .int .i64 0, .int .i64 0, .int .u32 0, .bool false, .int .i64 0, .slice none 0 0] 77)) := ⟨_, rfl⟩
          obtain ⟨u0, u1, u2, u3, hb, -⟩ := mkHearW_nil w kp la po v1 v2 g ex left a n c ty rg b ln lc w4 hw4
          have V1 := Lib.hid u1
          have V3 := Lib.hid u3
          have HB := Lib.hid hb
          have HH := Lib.hid (hH.out.below hb)
          have HA := Lib.hid (hA.out.below hb)
          clear u0 u1 u2 u3 hb hH hA
          go_enter Tryz.func92, Tryz.ntmps92
          go_wp2_with fail
          rw [← hw4]
          clear hw4
          refine (mHear0 ty kp la g ex left a n c s none 0 0 [] w4 HX.out hn HH.out.1 trivial HI.out rfl (by omega) (As.nil _ _) (fun _ => rfl) HTT.out).mono ?_
          rintro e w5 ⟨⟨a5, c5, aa, cc, rs, rfl, h5, m5, q5⟩, hb5⟩
          obtain ⟨r, hr⟩ : ∃ r, hrP kp la v1 v2 g ex left s ty xs = r := ⟨_, rfl⟩
          have hr2 := HR.out
          rw [hr] at hr2
          rw [← hr2] at h5 m5 ⊢
          have HRR := Lib.hid hr
          obtain ⟨rex, rleft, rs5, rq, rer⟩ := r
          simp only at h5 m5 ⊢
          have H5 := Lib.hid h5
          have M5 := Lib.hid m5
          have Q5 := Lib.hid q5
          replace V1 := Lib.hid (V1.out.below hb5 V1.out.lt)
          replace V3 := Lib.hid (V3.out.below hb5 V3.out.lt)
          have HZ5 : Hid (w.heap.size ≤ w4.heap.size) := Lib.hid HB.out.size
          replace HB := Lib.hid (HB.out.trans (hb5.mono HB.out.size))
          clear h5 m5 q5 hb5 hr hr2 HH
          obtain ⟨p0, p1, p2, p3, p4, p5, p6, q0, q1, q2, q3, q4, q5, q6⟩ := V1.out.cells
          obtain ⟨y0, y1, y2, y3, y4, y5, y6, z0, z1, z2, z3, z4, z5, z6⟩ := V3.out.cells
          have hk1 : w.heap.size + 1 < w5.heap.size := V1.out.lt
          have hk3 : w.heap.size + 3 < w5.heap.size := V3.out.lt
          have hk13 : ¬ w.heap.size + 1 = w.heap.size + 3 := by omega
          go_wp2_with fail
          have V3C : PV w5 (w.heap.size + 1 + 1 + 1) 0 0 0 0 false 0 none 0 0 := V3.out
          have B1 : But1 (w.heap.size + 1) w5 ((((w5.setCell ⟨w.heap.size + 1, 3, none⟩ (.int .u32 g)).setCell ⟨w.heap.size + 1, 4, none⟩ (.bool rex)).setCell ⟨w.heap.size + 1, 5, none⟩ (.int .i64 rleft)).setCell ⟨w.heap.size + 1, 6, none⟩ (.slice a5 (List.length rs5) c5)) := ((((But1.refl _ w5).trans (But1.set _ _ _ _)).trans (But1.set _ _ _ _)).trans (But1.set _ _ _ _)).trans (But1.set _ _ _ _)
          have hx1 : w5.heap[w.heap.size + 1]? = some (.cells _ 77 (0, 0)) := V1.out
          have V3B := V3C.but B1 (by omega)
          have H5B := H5.out.ty hx1 (by decide) B1
          have Q5B := Q5.out.ty hx1 (by decide) (by decide) B1
          have HBB := HB.out.trans (B1.below (by omega) HB.out.size)
          clear p0 p1 p2 p3 p4 p5 p6 q0 q1 q2 q3 q4 q5 q6 y0 y1 y2 y3 y4 y5 y6 z0 z1 z2 z3 z4 z5 z6 B1 hx1 V3C
          generalize ((((w5.setCell ⟨w.heap.size + 1, 3, none⟩ (.int .u32 g)).setCell ⟨w.heap.size + 1, 4, none⟩ (.bool rex)).setCell ⟨w.heap.size + 1, 5, none⟩ (.int .i64 rleft)).setCell ⟨w.heap.size + 1, 6, none⟩ (.slice a5 (List.length rs5) c5)) = w6 at *
          have B3 := V3B.store_but po v1 v2 g rex rleft a5 rs5.length c5
          have V3D := V3B.store po v1 v2 g rex rleft a5 rs5.length c5
          have hx3 : w6.heap[w.heap.size + 1 + 1 + 1]? = some (.cells _ 77 (0, 0)) := V3B
          have H5D := H5B.ty hx3 (by decide) B3
          have Q5D := Q5B.ty hx3 (by decide) (by decide) B3
          have HBD := HBB.trans (B3.below (by omega) HBB.size)
          clear B3 V3B H5B Q5B HBB hx3
          generalize (((((((w6.setCell ⟨w.heap.size + 1 + 1 + 1, 0, none⟩ (.int .i64 po)).setCell ⟨w.heap.size + 1 + 1 + 1, 1, none⟩ (.int .i64 v1)).setCell ⟨w.heap.size + 1 + 1 + 1, 2, none⟩ (.int .i64 v2)).setCell ⟨w.heap.size + 1 + 1 + 1, 3, none⟩ (.int .u32 g)).setCell ⟨w.heap.size + 1 + 1 + 1, 4, none⟩ (.bool rex)).setCell ⟨w.heap.size + 1 + 1 + 1, 5, none⟩ (.int .i64 rleft)).setCell ⟨w.heap.size + 1 + 1 + 1, 6, none⟩ (.slice a5 (List.length rs5) c5)) = w7 at *
          have hbE := bel1 w7 (.cells #[.int .u32 g, .bool rex, .int .i64 rleft, .slice a5 (List.length rs5) c5] 28)
          have V3E := V3D.below hbE V3D.lt
          refine ret_v3 (p := 6) rfl rfl rfl V3E.load ?_
          rw [HRR.out]
          exact ⟨⟨a5, c5, aa, cc, rs, rfl, H5D.below hbE, M5.out, (Q5D.below hbE).le HZ5.out⟩, HBD.trans (hbE.mono HBD.size)⟩
        · have HR : Hid (hrP kp la v1 v2 g ex left s ty xs = hearP g kp la ex left s ty xs) := Lib.hid (by unfold hrP letGo srcsP; simp [k1, h3, h6, h4])
          have e3 : (ty == 3) = false := by simpa using h3
          have e6 : (ty == 6) = false := by simpa using h6
          have e4 : (ty == 4) = false := by simpa using h4
          clear h3
          clear h6
          clear h4
          obtain ⟨w4, hw4⟩ : ∃ w4, w4 = ((((w.alloc (.cells #[.int .i64 kp, .int .i64 la] 23)).alloc (.cells #[.int .i64 po, .int .i64 v1, .int .i64 v2, .int .u32 g, .bool ex, .int .i64 left, .slice a n c] 77)).alloc (.cells #[.int .u8 ty, .int .u32 rg, .slice b ln lc] 102)).alloc (.cells #[.int .i64 0, .int .i64 0, .int .i64 0, .int .u32 0, .bool false, .int .i64 0, .slice none 0 0] 77)) := ⟨_, rfl⟩
          obtain ⟨u0, u1, u2, u3, hb, -⟩ := mkHearW_hear w kp la po v1 v2 g ex left a n c ty rg b ln lc w4 hw4
          have V1 := Lib.hid u1
          have V3 := Lib.hid u3
          have HB := Lib.hid hb
          have HH := Lib.hid (hH.out.below hb)
          have HA := Lib.hid (hA.out.below hb)
          clear u0 u1 u2 u3 hb hH hA
          go_enter Tryz.func92, Tryz.ntmps92
          go_wp2_with fail
          rw [← hw4]
          clear hw4
          refine (mHear0 ty kp la g ex left a n c s b ln lc xs w4 HX.out hn HH.out.1 trivial HI.out HL.out hln HA.out HFL.out HTT.out).mono ?_
          rintro e w5 ⟨⟨a5, c5, aa, cc, rs, rfl, h5, m5, q5⟩, hb5⟩
          obtain ⟨r, hr⟩ : ∃ r, hrP kp la v1 v2 g ex left s ty xs = r := ⟨_, rfl⟩
          have hr2 := HR.out
          rw [hr] at hr2
          rw [← hr2] at h5 m5 ⊢
          have HRR := Lib.hid hr
          obtain ⟨rex, rleft, rs5, rq, rer⟩ := r
          simp only at h5 m5 ⊢
          have H5 := Lib.hid h5
          have M5 := Lib.hid m5
          have Q5 := Lib.hid q5
          replace V1 := Lib.hid (V1.out.below hb5 V1.out.lt)
          replace V3 := Lib.hid (V3.out.below hb5 V3.out.lt)
          have HZ5 : Hid (w.heap.size ≤ w4.heap.size) := Lib.hid HB.out.size
          replace HB := Lib.hid (HB.out.trans (hb5.mono HB.out.size))
          clear h5 m5 q5 hb5 hr hr2 HH
          obtain ⟨p0, p1, p2, p3, p4, p5, p6, q0, q1, q2, q3, q4, q5, q6⟩ := V1.out.cells
          obtain ⟨y0, y1, y2, y3, y4, y5, y6, z0, z1, z2, z3, z4, z5, z6⟩ := V3.out.cells
          have hk1 : w.heap.size + 1 < w5.heap.size := V1.out.lt
          have hk3 : w.heap.size + 3 < w5.heap.size := V3.out.lt
          have hk13 : ¬ w.heap.size + 1 = w.heap.size + 3 := by omega
          go_wp2_with fail
          have V3C : PV w5 (w.heap.size + 1 + 1 + 1) 0 0 0 0 false 0 none 0 0 := V3.out
          have B1 : But1 (w.heap.size + 1) w5 ((((w5.setCell ⟨w.heap.size + 1, 3, none⟩ (.int .u32 g)).setCell ⟨w.heap.size + 1, 4, none⟩ (.bool rex)).setCell ⟨w.heap.size + 1, 5, none⟩ (.int .i64 rleft)).setCell ⟨w.heap.size + 1, 6, none⟩ (.slice a5 (List.length rs5) c5)) := ((((But1.refl _ w5).trans (But1.set _ _ _ _)).trans (But1.set _ _ _ _)).trans (But1.set _ _ _ _)).trans (But1.set _ _ _ _)
          have hx1 : w5.heap[w.heap.size + 1]? = some (.cells _ 77 (0, 0)) := V1.out
          have V3B := V3C.but B1 (by omega)
          have H5B := H5.out.ty hx1 (by decide) B1
          have Q5B := Q5.out.ty hx1 (by decide) (by decide) B1
          have HBB := HB.out.trans (B1.below (by omega) HB.out.size)
          clear p0 p1 p2 p3 p4 p5 p6 q0 q1 q2 q3 q4 q5 q6 y0 y1 y2 y3 y4 y5 y6 z0 z1 z2 z3 z4 z5 z6 B1 hx1 V3C
          generalize ((((w5.setCell ⟨w.heap.size + 1, 3, none⟩ (.int .u32 g)).setCell ⟨w.heap.size + 1, 4, none⟩ (.bool rex)).setCell ⟨w.heap.size + 1, 5, none⟩ (.int .i64 rleft)).setCell ⟨w.heap.size + 1, 6, none⟩ (.slice a5 (List.length rs5) c5)) = w6 at *
          have B3 := V3B.store_but po v1 v2 g rex rleft a5 rs5.length c5
          have V3D := V3B.store po v1 v2 g rex rleft a5 rs5.length c5
          have hx3 : w6.heap[w.heap.size + 1 + 1 + 1]? = some (.cells _ 77 (0, 0)) := V3B
          have H5D := H5B.ty hx3 (by decide) B3
          have Q5D := Q5B.ty hx3 (by decide) (by decide) B3
          have HBD := HBB.trans (B3.below (by omega) HBB.size)
          clear B3 V3B H5B Q5B HBB hx3
          generalize (((((((w6.setCell ⟨w.heap.size + 1 + 1 + 1, 0, none⟩ (.int .i64 po)).setCell ⟨w.heap.size + 1 + 1 + 1, 1, none⟩ (.int .i64 v1)).setCell ⟨w.heap.size + 1 + 1 + 1, 2, none⟩ (.int .i64 v2)).setCell ⟨w.heap.size + 1 + 1 + 1, 3, none⟩ (.int .u32 g)).setCell ⟨w.heap.size + 1 + 1 + 1, 4, none⟩ (.bool rex)).setCell ⟨w.heap.size + 1 + 1 + 1, 5, none⟩ (.int .i64 rleft)).setCell ⟨w.heap.size + 1 + 1 + 1, 6, none⟩ (.slice a5 (List.length rs5) c5)) = w7 at *
          have hbE := bel1 w7 (.cells #[.int .u32 g, .bool rex, .int .i64 rleft, .slice a5 (List.length rs5) c5] 28)
          have V3E := V3D.below hbE V3D.lt
          refine ret_v3 (p := 6) rfl rfl rfl V3E.load ?_
          rw [HRR.out]
          exact ⟨⟨a5, c5, aa, cc, rs, rfl, H5D.below hbE, M5.out, (Q5D.below hbE).le HZ5.out⟩, HBD.trans (hbE.mono HBD.size)⟩
  · have d1 : decide (0 < v1) = false := decide_eq_false k1
    by_cases k2 : 0 < v2
    · have d2 : decide (0 < v2) = true := decide_eq_true k2
      by_cases h6 : ty = 6
      · have HR : Hid (hrP kp la v1 v2 g ex left s ty xs = ⟨ex, left, s, [], 0⟩) := Lib.hid (by unfold hrP letGo; simp [k1, k2, h6])
        have e6 : (ty == 6) = true := by simpa using h6
        have e4 : (ty == 4) = false := by simp; omega
        clear h6
        obtain ⟨w4, hw4⟩ : ∃ w4, w4 = ((((w.alloc (.cells #[.int .i64 kp, .int .i64 la] 23)).alloc (.cells #[.int .i64 po, .int .i64 v1, .int .i64 v2, .int .u32 g, .bool ex, .int .i64 left, .slice a n c] 77)).alloc (.cells #[.int .u8 ty, .int .u32 rg, .slice b ln lc] 102)).alloc (.cells #[.int .i64 po, .int .i64 v1, .int .i64 v2, .int .u32 g, .bool ex, .int .i64 left, .slice a n c] 77)) := ⟨_, rfl⟩
        obtain ⟨u0, u1, u2, u3, hb, -⟩ := mkHearW_lg w kp la po v1 v2 g ex left a n c ty rg b ln lc w4 hw4
        have V1 := Lib.hid u1
        have V3 := Lib.hid u3
        have HB := Lib.hid hb
        have HH := Lib.hid (hH.out.below hb)
        have HA := Lib.hid (hA.out.below hb)
        clear u0 u1 u2 u3 hb hH hA
        go_enter Tryz.func92, Tryz.ntmps92
        go_wp2_with fail
        rw [← hw4]
        clear hw4
        refine ret_v3 (p := 6) rfl rfl rfl V3.out.load ?_
        rw [HR.out, ← HX.out]
        exact ⟨⟨a, c, none, 0, [], rfl, HH.out, rfl, Qs.nil _ _⟩, HB.out⟩
      · by_cases h4 : ty = 4
        · have HR : Hid (hrP kp la v1 v2 g ex left s ty xs = hearP g kp la ex left s ty []) := Lib.hid (by unfold hrP letGo srcsP; simp [k1, k2, h4])
          have e6 : (ty == 6) = false := by simpa using h6
          have e4 : (ty == 4) = true := by simpa using h4
          clear h6
          clear h4
          obtain ⟨w4, hw4⟩ : ∃ w4, w4 = ((((w.alloc (.cells #[.int .i64 kp, .int .i64 la] 23)).alloc (.cells #[.int .i64 po, .int .i64 v1, .int .i64 v2, .int .u32 g, .bool ex, .int .i64 left, .slice a n c] 77)).alloc (.cells #[.int .u8 ty, .int .u32 rg, .slice none 0 0] 102)).alloc (.cells #[.int .i64 0, .int .i64 0, .int .i64 0, .int .u32 0, .bool false, .int .i64 0, .slice none 0 0] 77)) := ⟨_, rfl⟩
          obtain ⟨u0, u1, u2, u3, hb, -⟩ := mkHearW_nil w kp la po v1 v2 g ex left a n c ty rg b ln lc w4 hw4
          have V1 := Lib.hid u1
          have V3 := Lib.hid u3
          have HB := Lib.hid hb
          have HH := Lib.hid (hH.out.below hb)
          have HA := Lib.hid (hA.out.below hb)
          clear u0 u1 u2 u3 hb hH hA
          go_enter Tryz.func92, Tryz.ntmps92
          go_wp2_with fail
          rw [← hw4]
          clear hw4
          refine (mHear0 ty kp la g ex left a n c s none 0 0 [] w4 HX.out hn HH.out.1 trivial HI.out rfl (by omega) (As.nil _ _) (fun _ => rfl) HTT.out).mono ?_
          rintro e w5 ⟨⟨a5, c5, aa, cc, rs, rfl, h5, m5, q5⟩, hb5⟩
          obtain ⟨r, hr⟩ : ∃ r, hrP kp la v1 v2 g ex left s ty xs = r := ⟨_, rfl⟩
          have hr2 := HR.out
          rw [hr] at hr2
          rw [← hr2] at h5 m5 ⊢
          have HRR := Lib.hid hr
          obtain ⟨rex, rleft, rs5, rq, rer⟩ := r
          simp only at h5 m5 ⊢
          have H5 := Lib.hid h5
          have M5 := Lib.hid m5
          have Q5 := Lib.hid q5
          replace V1 := Lib.hid (V1.out.below hb5 V1.out.lt)
          replace V3 := Lib.hid (V3.out.below hb5 V3.out.lt)
          have HZ5 : Hid (w.heap.size ≤ w4.heap.size) := Lib.hid HB.out.size
          replace HB := Lib.hid (HB.out.trans (hb5.mono HB.out.size))
          clear h5 m5 q5 hb5 hr hr2 HH
          obtain ⟨p0, p1, p2, p3, p4, p5, p6, q0, q1, q2, q3, q4, q5, q6⟩ := V1.out.cells
          obtain ⟨y0, y1, y2, y3, y4, y5, y6, z0, z1, z2, z3, z4, z5, z6⟩ := V3.out.cells
          have hk1 : w.heap.size + 1 < w5.heap.size := V1.out.lt
          have hk3 : w.heap.size + 3 < w5.heap.size := V3.out.lt
          have hk13 : ¬ w.heap.size + 1 = w.heap.size + 3 := by omega
          go_wp2_with fail
          have V3C : PV w5 (w.heap.size + 1 + 1 + 1) 0 0 0 0 false 0 none 0 0 := V3.out
          have B1 : But1 (w.heap.size + 1) w5 ((((w5.setCell ⟨w.heap.size + 1, 3, none⟩ (.int .u32 g)).setCell ⟨w.heap.size + 1, 4, none⟩ (.bool rex)).setCell ⟨w.heap.size + 1, 5, none⟩ (.int .i64 rleft)).setCell ⟨w.heap.size + 1, 6, none⟩ (.slice a5 (List.length rs5) c5)) := ((((But1.refl _ w5).trans (But1.set _ _ _ _)).trans (But1.set _ _ _ _)).trans (But1.set _ _ _ _)).trans (But1.set _ _ _ _)
          have hx1 : w5.heap[w.heap.size + 1]? = some (.cells _ 77 (0, 0)) := V1.out
          have V3B := V3C.but B1 (by omega)
          have H5B := H5.out.ty hx1 (by decide) B1
          have Q5B := Q5.out.ty hx1 (by decide) (by decide) B1
          have HBB := HB.out.trans (B1.below (by omega) HB.out.size)
          clear p0 p1 p2 p3 p4 p5 p6 q0 q1 q2 q3 q4 q5 q6 y0 y1 y2 y3 y4 y5 y6 z0 z1 z2 z3 z4 z5 z6 B1 hx1 V3C
          generalize ((((w5.setCell ⟨w.heap.size + 1, 3, none⟩ (.int .u32 g)).setCell ⟨w.heap.size + 1, 4, none⟩ (.bool rex)).setCell ⟨w.heap.size + 1, 5, none⟩ (.int .i64 rleft)).setCell ⟨w.heap.size + 1, 6, none⟩ (.slice a5 (List.length rs5) c5)) = w6 at *
          have B3 := V3B.store_but po v1 v2 g rex rleft a5 rs5.length c5
          have V3D := V3B.store po v1 v2 g rex rleft a5 rs5.length c5
          have hx3 : w6.heap[w.heap.size + 1 + 1 + 1]? = some (.cells _ 77 (0, 0)) := V3B
          have H5D := H5B.ty hx3 (by decide) B3
          have Q5D := Q5B.ty hx3 (by decide) (by decide) B3
          have HBD := HBB.trans (B3.below (by omega) HBB.size)
          clear B3 V3B H5B Q5B HBB hx3
          generalize (((((((w6.setCell ⟨w.heap.size + 1 + 1 + 1, 0, none⟩ (.int .i64 po)).setCell ⟨w.heap.size + 1 + 1 + 1, 1, none⟩ (.int .i64 v1)).setCell ⟨w.heap.size + 1 + 1 + 1, 2, none⟩ (.int .i64 v2)).setCell ⟨w.heap.size + 1 + 1 + 1, 3, none⟩ (.int .u32 g)).setCell ⟨w.heap.size + 1 + 1 + 1, 4, none⟩ (.bool rex)).setCell ⟨w.heap.size + 1 + 1 + 1, 5, none⟩ (.int .i64 rleft)).setCell ⟨w.heap.size + 1 + 1 + 1, 6, none⟩ (.slice a5 (List.length rs5) c5)) = w7 at *
          have hbE := bel1 w7 (.cells #[.int .u32 g, .bool rex, .int .i64 rleft, .slice a5 (List.length rs5) c5] 28)
          have V3E := V3D.below hbE V3D.lt
          refine ret_v3 (p := 6) rfl rfl rfl V3E.load ?_
          rw [HRR.out]
          exact ⟨⟨a5, c5, aa, cc, rs, rfl, H5D.below hbE, M5.out, (Q5D.below hbE).le HZ5.out⟩, HBD.trans (hbE.mono HBD.size)⟩
        · have HR : Hid (hrP kp la v1 v2 g ex left s ty xs = hearP g kp la ex left s ty xs) := Lib.hid (by unfold hrP letGo srcsP; simp [k1, k2, h6, h4])
          have e6 : (ty == 6) = false := by simpa using h6
          have e4 : (ty == 4) = false := by simpa using h4
          clear h6
          clear h4
          obtain ⟨w4, hw4⟩ : ∃ w4, w4 = ((((w.alloc (.cells #[.int .i64 kp, .int .i64 la] 23)).alloc (.cells #[.int .i64 po, .int .i64 v1, .int .i64 v2, .int .u32 g, .bool ex, .int .i64 left, .slice a n c] 77)).alloc (.cells #[.int .u8 ty, .int .u32 rg, .slice b ln lc] 102)).alloc (.cells #[.int .i64 0, .int .i64 0, .int .i64 0, .int .u32 0, .bool false, .int .i64 0, .slice none 0 0] 77)) := ⟨_, rfl⟩
          obtain ⟨u0, u1, u2, u3, hb, -⟩ := mkHearW_hear w kp la po v1 v2 g ex left a n c ty rg b ln lc w4 hw4
          have V1 := Lib.hid u1
          have V3 := Lib.hid u3
          have HB := Lib.hid hb
          have HH := Lib.hid (hH.out.below hb)
          have HA := Lib.hid (hA.out.below hb)
          clear u0 u1 u2 u3 hb hH hA
          go_enter Tryz.func92, Tryz.ntmps92
          go_wp2_with fail
          rw [← hw4]
          clear hw4
          refine (mHear0 ty kp la g ex left a n c s b ln lc xs w4 HX.out hn HH.out.1 trivial HI.out HL.out hln HA.out HFL.out HTT.out).mono ?_
          rintro e w5 ⟨⟨a5, c5, aa, cc, rs, rfl, h5, m5, q5⟩, hb5⟩
          obtain ⟨r, hr⟩ : ∃ r, hrP kp la v1 v2 g ex left s ty xs = r := ⟨_, rfl⟩
          have hr2 := HR.out
          rw [hr] at hr2
          rw [← hr2] at h5 m5 ⊢
          have HRR := Lib.hid hr
          obtain ⟨rex, rleft, rs5, rq, rer⟩ := r
          simp only at h5 m5 ⊢
          have H5 := Lib.hid h5
          have M5 := Lib.hid m5
          have Q5 := Lib.hid q5
          replace V1 := Lib.hid (V1.out.below hb5 V1.out.lt)
          replace V3 := Lib.hid (V3.out.below hb5 V3.out.lt)
          have HZ5 : Hid (w.heap.size ≤ w4.heap.size) := Lib.hid HB.out.size
          replace HB := Lib.hid (HB.out.trans (hb5.mono HB.out.size))
          clear h5 m5 q5 hb5 hr hr2 HH
          obtain ⟨p0, p1, p2, p3, p4, p5, p6, q0, q1, q2, q3, q4, q5, q6⟩ := V1.out.cells
          obtain ⟨y0, y1, y2, y3, y4, y5, y6, z0, z1, z2, z3, z4, z5, z6⟩ := V3.out.cells
          have hk1 : w.heap.size + 1 < w5.heap.size := V1.out.lt
          have hk3 : w.heap.size + 3 < w5.heap.size := V3.out.lt
          have hk13 : ¬ w.heap.size + 1 = w.heap.size + 3 := by omega
          go_wp2_with fail
          have V3C : PV w5 (w.heap.size + 1 + 1 + 1) 0 0 0 0 false 0 none 0 0 := V3.out
          have B1 : But1 (w.heap.size + 1) w5 ((((w5.setCell ⟨w.heap.size + 1, 3, none⟩ (.int .u32 g)).setCell ⟨w.heap.size + 1, 4, none⟩ (.bool rex)).setCell ⟨w.heap.size + 1, 5, none⟩ (.int .i64 rleft)).setCell ⟨w.heap.size + 1, 6, none⟩ (.slice a5 (List.length rs5) c5)) := ((((But1.refl _ w5).trans (But1.set _ _ _ _)).trans (But1.set _ _ _ _)).trans (But1.set _ _ _ _)).trans (But1.set _ _ _ _)
          have hx1 : w5.heap[w.heap.size + 1]? = some (.cells _ 77 (0, 0)) := V1.out
          have V3B := V3C.but B1 (by omega)
          have H5B := H5.out.ty hx1 (by decide) B1
          have Q5B := Q5.out.ty hx1 (by decide) (by decide) B1
          have HBB := HB.out.trans (B1.below (by omega) HB.out.size)
          clear p0 p1 p2 p3 p4 p5 p6 q0 q1 q2 q3 q4 q5 q6 y0 y1 y2 y3 y4 y5 y6 z0 z1 z2 z3 z4 z5 z6 B1 hx1 V3C
          generalize ((((w5.setCell ⟨w.heap.size + 1, 3, none⟩ (.int .u32 g)).setCell ⟨w.heap.size + 1, 4, none⟩ (.bool rex)).setCell ⟨w.heap.size + 1, 5, none⟩ (.int .i64 rleft)).setCell ⟨w.heap.size + 1, 6, none⟩ (.slice a5 (List.length rs5) c5)) = w6 at *
          have B3 := V3B.store_but po v1 v2 g rex rleft a5 rs5.length c5
          have V3D := V3B.store po v1 v2 g rex rleft a5 rs5.length c5
          have hx3 : w6.heap[w.heap.size + 1 + 1 + 1]? = some (.cells _ 77 (0, 0)) := V3B
          have H5D := H5B.ty hx3 (by decide) B3
          have Q5D := Q5B.ty hx3 (by decide) (by decide) B3
          have HBD := HBB.trans (B3.below (by omega) HBB.size)
          clear B3 V3B H5B Q5B HBB hx3
          generalize (((((((w6.setCell ⟨w.heap.size + 1 + 1 + 1, 0, none⟩ (.int .i64 po)).setCell ⟨w.heap.size + 1 + 1 + 1, 1, none⟩ (.int .i64 v1)).setCell ⟨w.heap.size + 1 + 1 + 1, 2, none⟩ (.int .i64 v2)).setCell ⟨w.heap.size + 1 + 1 + 1, 3, none⟩ (.int .u32 g)).setCell ⟨w.heap.size + 1 + 1 + 1, 4, none⟩ (.bool rex)).setCell ⟨w.heap.size + 1 + 1 + 1, 5, none⟩ (.int .i64 rleft)).setCell ⟨w.heap.size + 1 + 1 + 1, 6, none⟩ (.slice a5 (List.length rs5) c5)) = w7 at *
          have hbE := bel1 w7 (.cells #[.int .u32 g, .bool rex, .int .i64 rleft, .slice a5 (List.length rs5) c5] 28)
          have V3E := V3D.below hbE V3D.lt
          refine ret_v3 (p := 6) rfl rfl rfl V3E.load ?_
          rw [HRR.out]
          exact ⟨⟨a5, c5, aa, cc, rs, rfl, H5D.below hbE, M5.out, (Q5D.below hbE).le HZ5.out⟩, HBD.trans (hbE.mono HBD.size)⟩
    · have d2 : decide (0 < v2) = false := decide_eq_false k2
      have HR : Hid (hrP kp la v1 v2 g ex left s ty xs = hearP g kp la ex left s ty xs) := Lib.hid (by unfold hrP letGo srcsP; simp [k1, k2])
      obtain ⟨w4, hw4⟩ : ∃ w4, w4 = ((((w.alloc (.cells #[.int .i64 kp, .int .i64 la] 23)).alloc (.cells #[.int .i64 po, .int .i64 v1, .int .i64 v2, .int .u32 g, .bool ex, .int .i64 left, .slice a n c] 77)).alloc (.cells #[.int .u8 ty, .int .u32 rg, .slice b ln lc] 102)).alloc (.cells #[.int .i64 0, .int .i64 0, .int .i64 0, .int .u32 0, .bool false, .int .i64 0, .slice none 0 0] 77)) := ⟨_, rfl⟩
      obtain ⟨u0, u1, u2, u3, hb, -⟩ := mkHearW_hear w kp la po v1 v2 g ex left a n c ty rg b ln lc w4 hw4
      have V1 := Lib.hid u1
      have V3 := Lib.hid u3
      have HB := Lib.hid hb
      have HH := Lib.hid (hH.out.below hb)
      have HA := Lib.hid (hA.out.below hb)
      clear u0 u1 u2 u3 hb hH hA
      go_enter Tryz.func92, Tryz.ntmps92
      go_wp2_with fail
      rw [← hw4]
      clear hw4
      refine (mHear0 ty kp la g ex left a n c s b ln lc xs w4 HX.out hn HH.out.1 trivial HI.out HL.out hln HA.out HFL.out HTT.out).mono ?_
      rintro e w5 ⟨⟨a5, c5, aa, cc, rs, rfl, h5, m5, q5⟩, hb5⟩
      obtain ⟨r, hr⟩ : ∃ r, hrP kp la v1 v2 g ex left s ty xs = r := ⟨_, rfl⟩
      have hr2 := HR.out
      rw [hr] at hr2
      rw [← hr2] at h5 m5 ⊢
      have HRR := Lib.hid hr
      obtain ⟨rex, rleft, rs5, rq, rer⟩ := r
      simp only at h5 m5 ⊢
      have H5 := Lib.hid h5
      have M5 := Lib.hid m5
      have Q5 := Lib.hid q5
      replace V1 := Lib.hid (V1.out.below hb5 V1.out.lt)
      replace V3 := Lib.hid (V3.out.below hb5 V3.out.lt)
      have HZ5 : Hid (w.heap.size ≤ w4.heap.size) := Lib.hid HB.out.size
      replace HB := Lib.hid (HB.out.trans (hb5.mono HB.out.size))
      clear h5 m5 q5 hb5 hr hr2 HH
      obtain ⟨p0, p1, p2, p3, p4, p5, p6, q0, q1, q2, q3, q4, q5, q6⟩ := V1.out.cells
      obtain ⟨y0, y1, y2, y3, y4, y5, y6, z0, z1, z2, z3, z4, z5, z6⟩ := V3.out.cells
      have hk1 : w.heap.size + 1 < w5.heap.size := V1.out.lt
      have hk3 : w.heap.size + 3 < w5.heap.size := V3.out.lt
      have hk13 : ¬ w.heap.size + 1 = w.heap.size + 3 := by omega
      go_wp2_with fail
      have V3C : PV w5 (w.heap.size + 1 + 1 + 1) 0 0 0 0 false 0 none 0 0 := V3.out
      have B1 : But1 (w.heap.size + 1) w5 ((((w5.setCell ⟨w.heap.size + 1, 3, none⟩ (.int .u32 g)).setCell ⟨w.heap.size + 1, 4, none⟩ (.bool rex)).setCell ⟨w.heap.size + 1, 5, none⟩ (.int .i64 rleft)).setCell ⟨w.heap.size + 1, 6, none⟩ (.slice a5 (List.length rs5) c5)) := ((((But1.refl _ w5).trans (But1.set _ _ _ _)).trans (But1.set _ _ _ _)).trans (But1.set _ _ _ _)).trans (But1.set _ _ _ _)
      have hx1 : w5.heap[w.heap.size + 1]? = some (.cells _ 77 (0, 0)) := V1.out
      have V3B := V3C.but B1 (by omega)
      have H5B := H5.out.ty hx1 (by decide) B1
      have Q5B := Q5.out.ty hx1 (by decide) (by decide) B1
      have HBB := HB.out.trans (B1.below (by omega) HB.out.size)
      clear p0 p1 p2 p3 p4 p5 p6 q0 q1 q2 q3 q4 q5 q6 y0 y1 y2 y3 y4 y5 y6 z0 z1 z2 z3 z4 z5 z6 B1 hx1 V3C
      generalize ((((w5.setCell ⟨w.heap.size + 1, 3, none⟩ (.int .u32 g)).setCell ⟨w.heap.size + 1, 4, none⟩ (.bool rex)).setCell ⟨w.heap.size + 1, 5, none⟩ (.int .i64 rleft)).setCell ⟨w.heap.size + 1, 6, none⟩ (.slice a5 (List.length rs5) c5)) = w6 at *
      have B3 := V3B.store_but po v1 v2 g rex rleft a5 rs5.length c5
      have V3D := V3B.store po v1 v2 g rex rleft a5 rs5.length c5
      have hx3 : w6.heap[w.heap.size + 1 + 1 + 1]? = some (.cells _ 77 (0, 0)) := V3B
      have H5D := H5B.ty hx3 (by decide) B3
      have Q5D := Q5B.ty hx3 (by decide) (by decide) B3
      have HBD := HBB.trans (B3.below (by omega) HBB.size)
      clear B3 V3B H5B Q5B HBB hx3
      generalize (((((((w6.setCell ⟨w.heap.size + 1 + 1 + 1, 0, none⟩ (.int .i64 po)).setCell ⟨w.heap.size + 1 + 1 + 1, 1, none⟩ (.int .i64 v1)).setCell ⟨w.heap.size + 1 + 1 + 1, 2, none⟩ (.int .i64 v2)).setCell ⟨w.heap.size + 1 + 1 + 1, 3, none⟩ (.int .u32 g)).setCell ⟨w.heap.size + 1 + 1 + 1, 4, none⟩ (.bool rex)).setCell ⟨w.heap.size + 1 + 1 + 1, 5, none⟩ (.int .i64 rleft)).setCell ⟨w.heap.size + 1 + 1 + 1, 6, none⟩ (.slice a5 (List.length rs5) c5)) = w7 at *
      have hbE := bel1 w7 (.cells #[.int .u32 g, .bool rex, .int .i64 rleft, .slice a5 (List.length rs5) c5] 28)
      have V3E := V3D.below hbE V3D.lt
      refine ret_v3 (p := 6) rfl rfl rfl V3E.load ?_
      rw [HRR.out]
      exact ⟨⟨a5, c5, aa, cc, rs, rfl, H5D.below hbE, M5.out, (Q5D.below hbE).le HZ5.out⟩, HBD.trans (hbE.mono HBD.size)⟩
end Go.Proofs.YtiabbkjmgaemaaaGreat
