/- What a message is taken as; what a closure takes of it. -/
import Derived.Test.YtiabbkjmgaemaaaGreatDB0
import Derived.Test.YtiabbkjmgaemaaaGreatDB1
import Derived.Test.YtiabbkjmgaemaaaGreatDB2
import Derived.Test.YtiabbkjmgaemaaaGreatDB3
import Derived.Test.YtiabbkjmgaemaaaGreatDB4
import Derived.Test.YtiabbkjmgaemaaaGreatDB5
import Derived.Test.YtiabbkjmgaemaaaGreatDB6
import Derived.Test.YtiabbkjmgaemaaaGreatDB7
import Derived.Test.YtiabbkjmgaemaaaGreatDB8
import Derived.Test.YtiabbkjmgaemaaaGreatDB9
import Derived.Test.YtiabbkjmgaemaaaGreatDB10
import Derived.Test.YtiabbkjmgaemaaaGreatDB11
import Derived.Test.YtiabbkjmgaemaaaGreatDB12
import Derived.Test.YtiabbkjmgaemaaaGreatDB13
import Derived.Test.YtiabbkjmgaemaaaGreatDB14
import Derived.Test.YtiabbkjmgaemaaaGreatDB15
import Derived.Test.YtiabbkjmgaemaaaGreatDB16
import Derived.Test.YtiabbkjmgaemaaaGreatDB17
import Derived.Test.YtiabbkjmgaemaaaGreatDB18
import Derived.Laws.LoneSync
namespace Go.Proofs.YtiabbkjmgaemaaaGreat
set_option linter.unusedVariables false
open Go.RowKit

/-- Block X is a variable of that type. -/
def AV (w : World) (X : Nat) (a : Option Addr) (n : Nat) (c : Nat) : Prop := w.heap[X]? = some (.cells #[.slice a n c] 52 (0, 0))
namespace AV
variable {w w' : World} {X R : Nat} {a : Option Addr} {n : Nat} {c : Nat}
theorem lt (h : AV w X a n c) : X < w.heap.size := (Array.getElem?_eq_some_iff.1 h).1
theorem cells (h : AV w X a n c) : w.cell? ⟨X, 0, none⟩ = some (.slice a n c) ∧ w.frozen? ⟨X, 0, none⟩ = false := by
  have h' : w.heap[X]? = some (.cells #[.slice a n c] 52 (0, 0)) := h
  refine ⟨?_, ?_⟩
  all_goals first
    | (simp [World.cell?, h'])
    | (simp [World.frozen?, h'])
theorem below (h : AV w X a n c) {B : Nat} (hb : Below B w w') (hX : X < B) : AV w' X a n c := (hb.block X hX).trans h
theorem but (h : AV w X a n c) (hb : But1 R w w') (hne : X ≠ R) : AV w' X a n c := (hb.block X h.lt hne).trans h
theorem new (w : World) (a : Option Addr) (n : Nat) (c : Nat) : AV (w.alloc (.cells #[.slice a n c] 52)) w.heap.size a n c := Go.Deep.blk_alloc_new _ _
theorem keep (h : AV w X a n c) (o : Obj) : AV (w.alloc o) X a n c := h.below (bel1 w o) h.lt
theorem set0 (h : AV w X a n c) (a' : Option Addr) (n' : Nat) (c' : Nat) : AV (w.setCell ⟨X, 0, none⟩ (.slice a' n' c')) X a' n' c' := v_set (j := 0) h
theorem store (h : AV w X a n c) (a' : Option Addr) (n' : Nat) (c' : Nat) : AV (w.setCell ⟨X, 0, none⟩ (.slice a' n' c')) X a' n' c' := (h.set0 a' n' c')
theorem store_but (h : AV w X a n c) (a' : Option Addr) (n' : Nat) (c' : Nat) : But1 X w (w.setCell ⟨X, 0, none⟩ (.slice a' n' c')) := ((But1.refl X w).trans (But1.set _ X 0 _))
theorem load (h : AV w X a n c) : (loadVar 52 ⟨X, 0, none⟩).run Tryz.prog w = .ok (.slice a n c) w := by
  obtain ⟨c0, -⟩ := h.cells
  clear h
  go_simp
end AV
/-- Block X is a variable of that type. -/
def IV (w : World) (X : Nat) (x : Int) : Prop := w.heap[X]? = some (.cells #[.int .i64 x] 3 (0, 0))
namespace IV
variable {w w' : World} {X R : Nat} {x : Int}
theorem lt (h : IV w X x) : X < w.heap.size := (Array.getElem?_eq_some_iff.1 h).1
theorem cells (h : IV w X x) : w.cell? ⟨X, 0, none⟩ = some (.int .i64 x) ∧ w.frozen? ⟨X, 0, none⟩ = false := by
  have h' : w.heap[X]? = some (.cells #[.int .i64 x] 3 (0, 0)) := h
  refine ⟨?_, ?_⟩
  all_goals first
    | (simp [World.cell?, h'])
    | (simp [World.frozen?, h'])
theorem below (h : IV w X x) {B : Nat} (hb : Below B w w') (hX : X < B) : IV w' X x := (hb.block X hX).trans h
theorem but (h : IV w X x) (hb : But1 R w w') (hne : X ≠ R) : IV w' X x := (hb.block X h.lt hne).trans h
theorem new (w : World) (x : Int) : IV (w.alloc (.cells #[.int .i64 x] 3)) w.heap.size x := Go.Deep.blk_alloc_new _ _
theorem keep (h : IV w X x) (o : Obj) : IV (w.alloc o) X x := h.below (bel1 w o) h.lt
theorem set0 (h : IV w X x) (x' : Int) : IV (w.setCell ⟨X, 0, none⟩ (.int .i64 x')) X x' := v_set (j := 0) h
theorem store (h : IV w X x) (x' : Int) : IV (w.setCell ⟨X, 0, none⟩ (.int .i64 x')) X x' := (h.set0 x')
theorem store_but (h : IV w X x) (x' : Int) : But1 X w (w.setCell ⟨X, 0, none⟩ (.int .i64 x')) := ((But1.refl X w).trans (But1.set _ X 0 _))
theorem load (h : IV w X x) : (loadVar 3 ⟨X, 0, none⟩).run Tryz.prog w = .ok (.int .i64 x) w := by
  obtain ⟨c0, -⟩ := h.cells
  clear h
  go_simp
end IV
/-- Block X is a variable of that type. -/
def GV (w : World) (X : Nat) (kd : Int) (ve : Int) (co : Int) (gr : Int) (qu : Bool) (ro : Int) (ev : Int) (sa : Option Addr) (sn : Nat) (sc : Nat) (ra : Option Addr) (rn : Nat) (rc : Nat) : Prop := w.heap[X]? = some (.cells #[.int .u8 kd, .int .i64 ve, .int .u8 co, .int .u32 gr, .bool qu, .int .u8 ro, .int .u8 ev, .slice sa sn sc, .slice ra rn rc] 49 (0, 0))
namespace GV
variable {w w' : World} {X R : Nat} {kd : Int} {ve : Int} {co : Int} {gr : Int} {qu : Bool} {ro : Int} {ev : Int} {sa : Option Addr} {sn : Nat} {sc : Nat} {ra : Option Addr} {rn : Nat} {rc : Nat}
theorem lt (h : GV w X kd ve co gr qu ro ev sa sn sc ra rn rc) : X < w.heap.size := (Array.getElem?_eq_some_iff.1 h).1
theorem cells (h : GV w X kd ve co gr qu ro ev sa sn sc ra rn rc) : w.cell? ⟨X, 0, none⟩ = some (.int .u8 kd) ∧ w.cell? ⟨X, 1, none⟩ = some (.int .i64 ve) ∧ w.cell? ⟨X, 2, none⟩ = some (.int .u8 co) ∧ w.cell? ⟨X, 3, none⟩ = some (.int .u32 gr) ∧ w.cell? ⟨X, 4, none⟩ = some (.bool qu) ∧ w.cell? ⟨X, 5, none⟩ = some (.int .u8 ro) ∧ w.cell? ⟨X, 6, none⟩ = some (.int .u8 ev) ∧ w.cell? ⟨X, 7, none⟩ = some (.slice sa sn sc) ∧ w.cell? ⟨X, 8, none⟩ = some (.slice ra rn rc) ∧ w.frozen? ⟨X, 0, none⟩ = false ∧ w.frozen? ⟨X, 1, none⟩ = false ∧ w.frozen? ⟨X, 2, none⟩ = false ∧ w.frozen? ⟨X, 3, none⟩ = false ∧ w.frozen? ⟨X, 4, none⟩ = false ∧ w.frozen? ⟨X, 5, none⟩ = false ∧ w.frozen? ⟨X, 6, none⟩ = false ∧ w.frozen? ⟨X, 7, none⟩ = false ∧ w.frozen? ⟨X, 8, none⟩ = false := by
  have h' : w.heap[X]? = some (.cells #[.int .u8 kd, .int .i64 ve, .int .u8 co, .int .u32 gr, .bool qu, .int .u8 ro, .int .u8 ev, .slice sa sn sc, .slice ra rn rc] 49 (0, 0)) := h
  refine ⟨?_, ?_, ?_, ?_, ?_, ?_, ?_, ?_, ?_, ?_, ?_, ?_, ?_, ?_, ?_, ?_, ?_, ?_⟩
  all_goals first
    | (simp [World.cell?, h'])
    | (simp [World.frozen?, h'])
theorem below (h : GV w X kd ve co gr qu ro ev sa sn sc ra rn rc) {B : Nat} (hb : Below B w w') (hX : X < B) : GV w' X kd ve co gr qu ro ev sa sn sc ra rn rc := (hb.block X hX).trans h
theorem but (h : GV w X kd ve co gr qu ro ev sa sn sc ra rn rc) (hb : But1 R w w') (hne : X ≠ R) : GV w' X kd ve co gr qu ro ev sa sn sc ra rn rc := (hb.block X h.lt hne).trans h
theorem new (w : World) (kd : Int) (ve : Int) (co : Int) (gr : Int) (qu : Bool) (ro : Int) (ev : Int) (sa : Option Addr) (sn : Nat) (sc : Nat) (ra : Option Addr) (rn : Nat) (rc : Nat) : GV (w.alloc (.cells #[.int .u8 kd, .int .i64 ve, .int .u8 co, .int .u32 gr, .bool qu, .int .u8 ro, .int .u8 ev, .slice sa sn sc, .slice ra rn rc] 49)) w.heap.size kd ve co gr qu ro ev sa sn sc ra rn rc := Go.Deep.blk_alloc_new _ _
theorem keep (h : GV w X kd ve co gr qu ro ev sa sn sc ra rn rc) (o : Obj) : GV (w.alloc o) X kd ve co gr qu ro ev sa sn sc ra rn rc := h.below (bel1 w o) h.lt
theorem set0 (h : GV w X kd ve co gr qu ro ev sa sn sc ra rn rc) (kd' : Int) : GV (w.setCell ⟨X, 0, none⟩ (.int .u8 kd')) X kd' ve co gr qu ro ev sa sn sc ra rn rc := v_set (j := 0) h
theorem set1 (h : GV w X kd ve co gr qu ro ev sa sn sc ra rn rc) (ve' : Int) : GV (w.setCell ⟨X, 1, none⟩ (.int .i64 ve')) X kd ve' co gr qu ro ev sa sn sc ra rn rc := v_set (j := 1) h
theorem set2 (h : GV w X kd ve co gr qu ro ev sa sn sc ra rn rc) (co' : Int) : GV (w.setCell ⟨X, 2, none⟩ (.int .u8 co')) X kd ve co' gr qu ro ev sa sn sc ra rn rc := v_set (j := 2) h
theorem set3 (h : GV w X kd ve co gr qu ro ev sa sn sc ra rn rc) (gr' : Int) : GV (w.setCell ⟨X, 3, none⟩ (.int .u32 gr')) X kd ve co gr' qu ro ev sa sn sc ra rn rc := v_set (j := 3) h
theorem set4 (h : GV w X kd ve co gr qu ro ev sa sn sc ra rn rc) (qu' : Bool) : GV (w.setCell ⟨X, 4, none⟩ (.bool qu')) X kd ve co gr qu' ro ev sa sn sc ra rn rc := v_set (j := 4) h
theorem set5 (h : GV w X kd ve co gr qu ro ev sa sn sc ra rn rc) (ro' : Int) : GV (w.setCell ⟨X, 5, none⟩ (.int .u8 ro')) X kd ve co gr qu ro' ev sa sn sc ra rn rc := v_set (j := 5) h
theorem set6 (h : GV w X kd ve co gr qu ro ev sa sn sc ra rn rc) (ev' : Int) : GV (w.setCell ⟨X, 6, none⟩ (.int .u8 ev')) X kd ve co gr qu ro ev' sa sn sc ra rn rc := v_set (j := 6) h
theorem set7 (h : GV w X kd ve co gr qu ro ev sa sn sc ra rn rc) (sa' : Option Addr) (sn' : Nat) (sc' : Nat) : GV (w.setCell ⟨X, 7, none⟩ (.slice sa' sn' sc')) X kd ve co gr qu ro ev sa' sn' sc' ra rn rc := v_set (j := 7) h
theorem set8 (h : GV w X kd ve co gr qu ro ev sa sn sc ra rn rc) (ra' : Option Addr) (rn' : Nat) (rc' : Nat) : GV (w.setCell ⟨X, 8, none⟩ (.slice ra' rn' rc')) X kd ve co gr qu ro ev sa sn sc ra' rn' rc' := v_set (j := 8) h
theorem store (h : GV w X kd ve co gr qu ro ev sa sn sc ra rn rc) (kd' : Int) (ve' : Int) (co' : Int) (gr' : Int) (qu' : Bool) (ro' : Int) (ev' : Int) (sa' : Option Addr) (sn' : Nat) (sc' : Nat) (ra' : Option Addr) (rn' : Nat) (rc' : Nat) : GV (((((((((w.setCell ⟨X, 0, none⟩ (.int .u8 kd')).setCell ⟨X, 1, none⟩ (.int .i64 ve')).setCell ⟨X, 2, none⟩ (.int .u8 co')).setCell ⟨X, 3, none⟩ (.int .u32 gr')).setCell ⟨X, 4, none⟩ (.bool qu')).setCell ⟨X, 5, none⟩ (.int .u8 ro')).setCell ⟨X, 6, none⟩ (.int .u8 ev')).setCell ⟨X, 7, none⟩ (.slice sa' sn' sc')).setCell ⟨X, 8, none⟩ (.slice ra' rn' rc')) X kd' ve' co' gr' qu' ro' ev' sa' sn' sc' ra' rn' rc' := (((((((((h.set0 kd').set1 ve').set2 co').set3 gr').set4 qu').set5 ro').set6 ev').set7 sa' sn' sc').set8 ra' rn' rc')
theorem store_but (h : GV w X kd ve co gr qu ro ev sa sn sc ra rn rc) (kd' : Int) (ve' : Int) (co' : Int) (gr' : Int) (qu' : Bool) (ro' : Int) (ev' : Int) (sa' : Option Addr) (sn' : Nat) (sc' : Nat) (ra' : Option Addr) (rn' : Nat) (rc' : Nat) : But1 X w (((((((((w.setCell ⟨X, 0, none⟩ (.int .u8 kd')).setCell ⟨X, 1, none⟩ (.int .i64 ve')).setCell ⟨X, 2, none⟩ (.int .u8 co')).setCell ⟨X, 3, none⟩ (.int .u32 gr')).setCell ⟨X, 4, none⟩ (.bool qu')).setCell ⟨X, 5, none⟩ (.int .u8 ro')).setCell ⟨X, 6, none⟩ (.int .u8 ev')).setCell ⟨X, 7, none⟩ (.slice sa' sn' sc')).setCell ⟨X, 8, none⟩ (.slice ra' rn' rc')) := ((((((((((But1.refl X w).trans (But1.set _ X 0 _)).trans (But1.set _ X 1 _)).trans (But1.set _ X 2 _)).trans (But1.set _ X 3 _)).trans (But1.set _ X 4 _)).trans (But1.set _ X 5 _)).trans (But1.set _ X 6 _)).trans (But1.set _ X 7 _)).trans (But1.set _ X 8 _))
theorem load (h : GV w X kd ve co gr qu ro ev sa sn sc ra rn rc) : (loadVar 49 ⟨X, 0, none⟩).run Tryz.prog w = .ok (.agg #[.int .u8 kd, .int .i64 ve, .int .u8 co, .int .u32 gr, .bool qu, .int .u8 ro, .int .u8 ev, .slice sa sn sc, .slice ra rn rc]) w := by
  obtain ⟨c0, c1, c2, c3, c4, c5, c6, c7, c8, -⟩ := h.cells
  clear h
  go_simp
end GV
/-- Block X is a variable of that type. -/
def QV (w : World) (X : Nat) (g : Int) (a : Option Addr) (n : Nat) (c : Nat) : Prop := w.heap[X]? = some (.cells #[.int .u32 g, .slice a n c] 73 (0, 0))
namespace QV
variable {w w' : World} {X R : Nat} {g : Int} {a : Option Addr} {n : Nat} {c : Nat}
theorem lt (h : QV w X g a n c) : X < w.heap.size := (Array.getElem?_eq_some_iff.1 h).1
theorem cells (h : QV w X g a n c) : w.cell? ⟨X, 0, none⟩ = some (.int .u32 g) ∧ w.cell? ⟨X, 1, none⟩ = some (.slice a n c) ∧ w.frozen? ⟨X, 0, none⟩ = false ∧ w.frozen? ⟨X, 1, none⟩ = false := by
  have h' : w.heap[X]? = some (.cells #[.int .u32 g, .slice a n c] 73 (0, 0)) := h
  refine ⟨?_, ?_, ?_, ?_⟩
  all_goals first
    | (simp [World.cell?, h'])
    | (simp [World.frozen?, h'])
theorem below (h : QV w X g a n c) {B : Nat} (hb : Below B w w') (hX : X < B) : QV w' X g a n c := (hb.block X hX).trans h
theorem but (h : QV w X g a n c) (hb : But1 R w w') (hne : X ≠ R) : QV w' X g a n c := (hb.block X h.lt hne).trans h
theorem new (w : World) (g : Int) (a : Option Addr) (n : Nat) (c : Nat) : QV (w.alloc (.cells #[.int .u32 g, .slice a n c] 73)) w.heap.size g a n c := Go.Deep.blk_alloc_new _ _
theorem keep (h : QV w X g a n c) (o : Obj) : QV (w.alloc o) X g a n c := h.below (bel1 w o) h.lt
theorem set0 (h : QV w X g a n c) (g' : Int) : QV (w.setCell ⟨X, 0, none⟩ (.int .u32 g')) X g' a n c := v_set (j := 0) h
theorem set1 (h : QV w X g a n c) (a' : Option Addr) (n' : Nat) (c' : Nat) : QV (w.setCell ⟨X, 1, none⟩ (.slice a' n' c')) X g a' n' c' := v_set (j := 1) h
theorem store (h : QV w X g a n c) (g' : Int) (a' : Option Addr) (n' : Nat) (c' : Nat) : QV ((w.setCell ⟨X, 0, none⟩ (.int .u32 g')).setCell ⟨X, 1, none⟩ (.slice a' n' c')) X g' a' n' c' := ((h.set0 g').set1 a' n' c')
theorem store_but (h : QV w X g a n c) (g' : Int) (a' : Option Addr) (n' : Nat) (c' : Nat) : But1 X w ((w.setCell ⟨X, 0, none⟩ (.int .u32 g')).setCell ⟨X, 1, none⟩ (.slice a' n' c')) := (((But1.refl X w).trans (But1.set _ X 0 _)).trans (But1.set _ X 1 _))
theorem load (h : QV w X g a n c) : (loadVar 73 ⟨X, 0, none⟩).run Tryz.prog w = .ok (.agg #[.int .u32 g, .slice a n c]) w := by
  obtain ⟨c0, c1, -⟩ := h.cells
  clear h
  go_simp
end QV
/-- Block X is a variable of that type. -/
def CV (w : World) (X : Nat) (x : Int) : Prop := w.heap[X]? = some (.cells #[.int .i64 x] 109 (0, 0))
namespace CV
variable {w w' : World} {X R : Nat} {x : Int}
theorem lt (h : CV w X x) : X < w.heap.size := (Array.getElem?_eq_some_iff.1 h).1
theorem cells (h : CV w X x) : w.cell? ⟨X, 0, none⟩ = some (.int .i64 x) ∧ w.frozen? ⟨X, 0, none⟩ = false := by
  have h' : w.heap[X]? = some (.cells #[.int .i64 x] 109 (0, 0)) := h
  refine ⟨?_, ?_⟩
  all_goals first
    | (simp [World.cell?, h'])
    | (simp [World.frozen?, h'])
theorem below (h : CV w X x) {B : Nat} (hb : Below B w w') (hX : X < B) : CV w' X x := (hb.block X hX).trans h
theorem but (h : CV w X x) (hb : But1 R w w') (hne : X ≠ R) : CV w' X x := (hb.block X h.lt hne).trans h
theorem new (w : World) (x : Int) : CV (w.alloc (.cells #[.int .i64 x] 109)) w.heap.size x := Go.Deep.blk_alloc_new _ _
theorem keep (h : CV w X x) (o : Obj) : CV (w.alloc o) X x := h.below (bel1 w o) h.lt
theorem set0 (h : CV w X x) (x' : Int) : CV (w.setCell ⟨X, 0, none⟩ (.int .i64 x')) X x' := v_set (j := 0) h
theorem store (h : CV w X x) (x' : Int) : CV (w.setCell ⟨X, 0, none⟩ (.int .i64 x')) X x' := (h.set0 x')
theorem store_but (h : CV w X x) (x' : Int) : But1 X w (w.setCell ⟨X, 0, none⟩ (.int .i64 x')) := ((But1.refl X w).trans (But1.set _ X 0 _))
theorem load (h : CV w X x) : (loadVar 109 ⟨X, 0, none⟩).run Tryz.prog w = .ok (.agg #[.int .i64 x]) w := by
  obtain ⟨c0, -⟩ := h.cells
  clear h
  go_simp
end CV
theorem aAdd (B : Nat) (k : Int) (w : World) (hc : w.cell? ⟨B, 0, none⟩ = some (.int .i64 k)) (hz : w.frozen? ⟨B, 0, none⟩ = false) (hk : 0 ≤ k ∧ k ≤ 1000000) :
    Calls Tryz.prog 54 #[.pointer (some ⟨B, 0, none⟩), .int .i64 1] w fun e w' => e = .returned (.int .i64 (k + 1)) ∧ w' = w.setCell ⟨B, 0, none⟩ (.int .i64 (k + 1)) := by
  have hd : (callFunc 94 #[.pointer (some ⟨B, 0, none⟩), .int .i64 1]).run Tryz.prog w = .ok (.value (.int .i64 (k + 1))) (w.setCell ⟨B, 0, none⟩ (.int .i64 (k + 1))) :=
    run_call_add (fn := Tryz.f94) (by kernel_rfl) (by kernel_rfl) (by kernel_rfl) (by kernel_rfl) .i64 (by kernel_rfl) hc hz (by simp [Op.intArith]; exact vwrap (by omega) (by omega))
  clear hc hz hk
  go_enter Tryz.func54, Tryz.ntmps54
  go_wp2
  go_ret
  exact ⟨rfl, rfl⟩
theorem aLoad (B : Nat) (k : Int) (w : World) (hc : w.cell? ⟨B, 0, none⟩ = some (.int .i64 k)) :
    Calls Tryz.prog 58 #[.pointer (some ⟨B, 0, none⟩)] w fun e w' => e = .returned (.int .i64 k) ∧ w' = w := by
  have hd : (callFunc 98 #[.pointer (some ⟨B, 0, none⟩)]).run Tryz.prog w = .ok (.value (.int .i64 k)) w :=
    run_call_load (fn := Tryz.f98) (by kernel_rfl) (by kernel_rfl) (by kernel_rfl) (by kernel_rfl) .i64 (by kernel_rfl) hc
  clear hc
  go_enter Tryz.func58, Tryz.ntmps58
  go_wp2
  go_ret
  exact ⟨rfl, rfl⟩
theorem ret_t0 {P : Program} {fn : Func} {R : Ending → World → Prop} {a : Act} {w : World} (hr : fn.results = #[]) (hd : a.defers = []) (hR : R (.returned (.tuple #[])) w) : bodyPost P fn R .ret a w := by
  refine ⟨hd, _, ?_, hR⟩
  simp only [results, hr]
  simp
theorem ret_n0 {P : Program} {fn : Func} {R : Ending → World → Prop} {a : Act} {w : World} (hr : fn.results = #[]) (hd : a.defers = []) (hR : R (.returned (.tuple #[])) w) : bodyPost P fn R .normal a w := by
  refine ⟨hd, _, ?_, hR⟩
  simp only [results, hr]
  simp
theorem infoPq : (Tryz.prog.info? 75).map (fun i => (i.zero, i.size, i.bytes)) = some (some (.agg #[.int .i64 0, .int .u32 0, .slice none 0 0]), 3, 40) := by kernel_rfl
/-- Whatever is no database, no row of questions, no such row's variable and no counter stays. -/
def KT (w w' : World) : Prop := ∀ (X : Nat) (cs : Array Value) (T : TypeId) (p : Nat × Nat), w.heap[X]? = some (.cells cs T p) → T ≠ 46 → T ≠ 52 → T ≠ 109 → T ≠ 75 → w'.heap[X]? = some (.cells cs T p)
theorem KT.refl (w : World) : KT w w := fun X cs T p h _ _ _ _ => h
theorem KT.trans {w w' w2 : World} (h : KT w w') (k : KT w' w2) : KT w w2 := fun X cs T p e h1 h2 h3 h4 => k X cs T p (h X cs T p e h1 h2 h3 h4) h1 h2 h3 h4
theorem KT.of_below {w w' : World} (h : Below w.heap.size w w') : KT w w' := fun X cs T p e _ _ _ _ => (h.block X (Array.getElem?_eq_some_iff.1 e).1).trans e
theorem KT.of_but {w w' : World} {R : Nat} {cs : Array Value} {T : TypeId} {p : Nat × Nat} (hX : w.heap[R]? = some (.cells cs T p)) (hT : T = 46 ∨ T = 52 ∨ T = 109 ∨ T = 75) (hb : But1 R w w') : KT w w' := by
  intro X cs' T' p' e h1 h2 h3 h4
  have hne : X ≠ R := by
    rintro rfl
    rw [hX] at e
    simp only [Option.some.injEq, Obj.cells.injEq] at e
    obtain ⟨_, rfl, _⟩ := e
    rcases hT with h | h | h | h
    · exact h1 h
    · exact h2 h
    · exact h3 h
    · exact h4 h
  exact (hb.block X (Array.getElem?_eq_some_iff.1 e).1 hne).trans e
theorem KT.of_grown {w w' : World} {B size n : Nat} {v : Value} {xs : List Value} (h : w.ownsRow B 75 size v n xs) (hg : w.grownBy w' v.ownBlock) : KT w w' := by
  intro X cs T p e h1 h2 h3 h4
  refine (hg.block X (Array.getElem?_eq_some_iff.1 e).1 ?_).trans e
  intro e2
  rcases h.2 with ⟨rfl, _⟩ | ⟨g2, cap2, cur2, rfl, _, hb2, _⟩
  · simp [Value.ownBlock] at e2
  · obtain rfl : g2 = X := by simpa [Value.ownBlock, eq_comm] using e2
    rw [e] at hb2
    simp only [Option.some.injEq, Obj.cells.injEq] at hb2
    exact h4 hb2.2.1
/-- .. and other databases' variables stay. -/
def KD (B : Nat) (w w' : World) : Prop := ∀ (X : Nat) (cs : Array Value) (p : Nat × Nat), X ≠ B → w.heap[X]? = some (.cells cs 46 p) → w'.heap[X]? = some (.cells cs 46 p)
theorem KD.refl (B : Nat) (w : World) : KD B w w := fun X cs p _ h => h
theorem KD.trans {B : Nat} {w w' w2 : World} (h : KD B w w') (k : KD B w' w2) : KD B w w2 := fun X cs p hX e => k X cs p hX (h X cs p hX e)
theorem KD.of_below {B : Nat} {w w' : World} (h : Below w.heap.size w w') : KD B w w' := fun X cs p _ e => (h.block X (Array.getElem?_eq_some_iff.1 e).1).trans e
theorem KD.of_self {B : Nat} {w w' : World} (h : But1 B w w') : KD B w w' := fun X cs p hX e => (h.block X (Array.getElem?_eq_some_iff.1 e).1 hX).trans e
theorem KD.of_ty {B R : Nat} {w w' : World} {cs : Array Value} {T : TypeId} {p : Nat × Nat} (hX : w.heap[R]? = some (.cells cs T p)) (hT : T ≠ 46) (hb : But1 R w w') : KD B w w' := by
  intro X cs' p' _ e
  refine (hb.block X (Array.getElem?_eq_some_iff.1 e).1 ?_).trans e
  rintro rfl
  rw [hX] at e
  simp only [Option.some.injEq, Obj.cells.injEq] at e
  exact hT e.2.1
theorem KD.of_grown {B B' : Nat} {w w' : World} {size n : Nat} {v : Value} {xs : List Value} (h : w.ownsRow B' 75 size v n xs) (hg : w.grownBy w' v.ownBlock) : KD B w w' := by
  intro X cs p _ e
  refine (hg.block X (Array.getElem?_eq_some_iff.1 e).1 ?_).trans e
  intro e2
  rcases h.2 with ⟨rfl, _⟩ | ⟨g2, cap2, cur2, rfl, _, hb2, _⟩
  · simp [Value.ownBlock] at e2
  · obtain rfl : g2 = X := by simpa [Value.ownBlock, eq_comm] using e2
    rw [e] at hb2
    simp only [Option.some.injEq, Obj.cells.injEq] at hb2
    exact absurd hb2.2.1 (by decide)
theorem HT.kt {w w' : World} {a : Option Addr} {s : List Hd} (h : HT w a s) (k : KT w w') : HT w' a s := by
  rcases h.2 with h1 | ⟨b, off, cs, p, e, h1⟩
  · exact ⟨⟨.inl h1, h.1.2⟩, .inl h1⟩
  · have hk := k b cs _ p h1 (by decide) (by decide) (by decide) (by decide)
    refine ⟨⟨?_, h.1.2⟩, .inr ⟨b, off, cs, p, e, hk⟩⟩
    rcases h.1.1 with h2 | ⟨b', off', e', hc⟩
    · exact .inl h2
    · rw [e] at e'
      cases e'
      have hkk : w'.heap[b]? = w.heap[b]? := hk.trans h1.symm
      exact .inr ⟨b, off, e, fun j x hx => ⟨(World.cell?_of_block (w := w) hkk).trans (hc j x hx).1, (World.cell?_of_block (w := w) hkk).trans (hc j x hx).2⟩⟩
theorem PT.kt {w w' : World} {p : Plc} (h : PT w p) (k : KT w w') : PT w' p := ⟨h.1.kt k, h.2⟩
theorem own_kt {w w' : World} {B n size : Nat} {e : TypeId} {v : Value} {xs : List Value} (h : w.ownsRow B e size v n xs) (k : KT w w') (h1 : e ≠ 46) (h2 : e ≠ 52) (h3 : e ≠ 109) (h4 : e ≠ 75) : w'.ownsRow B e size v n xs := by
  refine ⟨h.1, ?_⟩
  rcases h.2 with h0 | ⟨g, cap, cur, e1, hB, hg, h5⟩
  · exact .inl h0
  · exact .inr ⟨g, cap, cur, e1, hB, k g cur e _ hg h1 h2 h3 h4, h5⟩
theorem QOk.kt {w w' : World} {r : Qr} (h : QOk w r) (k : KT w w') : QOk w' r := ⟨h.1, h.2.1, own_kt h.2.2 k (by decide) (by decide) (by decide) (by decide)⟩
theorem blk9 {w w' : World} {g B2 size2 m : Nat} {e e2 : TypeId} {c : Array Value} {v2 : Value} {ys : List Value} (h : w.heap[g]? = some (.cells c e (0, 0))) (h2 : w.ownsRow B2 e2 size2 v2 m ys) (hne : e ≠ e2) (hg : w.grownBy w' v2.ownBlock) : w'.heap[g]? = some (.cells c e (0, 0)) := by
  refine (hg.block g (Array.getElem?_eq_some_iff.1 h).1 ?_).trans h
  intro e2'
  rcases h2.2 with ⟨rfl, _⟩ | ⟨g2, cap2, cur2, rfl, _, hb2, _⟩
  · simp [Value.ownBlock] at e2'
  · obtain rfl : g2 = g := by simpa [Value.ownBlock, eq_comm] using e2'
    rw [h] at hb2
    simp only [Option.some.injEq, Obj.cells.injEq] at hb2
    exact hne hb2.2.1
theorem Qs.kt {w w' : World} {B : Nat} {a : Option Addr} {c : Nat} {rs : List Qr} (h : Qs w B a c rs) (k : KT w w') : Qs w' B a c rs := ⟨own_kt h.1 k (by decide) (by decide) (by decide) (by decide), fun r hr => (h.2 r hr).kt k⟩
/-- Questions to a port, and where their sources lie. -/
abbrev Aq := Int × Qr
def aqv (rs : List Aq) : List Value := rs.flatMap fun r => [.int .i64 r.1, .int .u32 r.2.g, r.2.sl]
theorem aqv_one (r : Aq) : aqv [r] = [.int .i64 r.1, .int .u32 r.2.g, r.2.sl] := by simp [aqv]
theorem aqv_append (a b : List Aq) : aqv (a ++ b) = aqv a ++ aqv b := by simp [aqv]
def Aq.nm (r : Aq) : Int × Int × List Int := (r.1, r.2.nm)
theorem Qs.at {w : World} {B : Nat} {a : Option Addr} {c : Nat} {rs : List Qr} (h : Qs w B a c rs) {k : Nat} {r : Qr} (hk : rs[k]? = some r) : ∃ g, a = some ⟨g, 0, none⟩ ∧ w.cell? ⟨g, k * 2, none⟩ = some (.int .u32 r.g) ∧ w.cell? ⟨g, k * 2 + 1, none⟩ = some r.sl := by
  have hlt := (List.getElem?_eq_some_iff.1 hk).1
  obtain ⟨g, rfl, _, _, hc⟩ := kown_at h.1 (by omega)
  have e : ∀ (rs : List Qr) (k : Nat) (r : Qr), rs[k]? = some r → (qv rs)[k * 2]? = some (.int .u32 r.g) ∧ (qv rs)[k * 2 + 1]? = some r.sl := by
    intro rs
    induction rs with
    | nil => intro k r h; simp at h
    | cons t q ih =>
      intro k r h
      cases k with
      | zero => simp at h; subst h; simp [qv]
      | succ k =>
        have := ih k r (by simpa using h)
        simp only [qv, List.flatMap_cons, List.cons_append, List.nil_append] at this ⊢
        rw [show (k + 1) * 2 = k * 2 + 1 + 1 by omega]
        simpa using this
  exact ⟨g, rfl, hc _ _ (e rs k r hk).1, hc _ _ (e rs k r hk).2⟩
theorem qrow_new (w : World) (po g : Int) (a : Option Addr) (n c : Nat) : ∀ j u, [Value.int .i64 po, .int .u32 g, .slice a n c][j]? = some u → (w.alloc (.cells #[.int .i64 po, .int .u32 g, .slice a n c] 75)).cell? ((⟨w.heap.size, 0, none⟩ : Addr).add j) = some u := by
  intro j u h
  match j with
  | 0 => simp at h; subst h; rw [add_flat]; exact cell_new w _ _ 0
  | 1 => simp at h; subst h; rw [add_flat]; exact cell_new w _ _ 1
  | 2 => simp at h; subst h; rw [add_flat]; exact cell_new w _ _ 2
  | j + 3 => simp at h
/-- A database, questions and a counter in their variables. -/
def HSt (w : World) (N0 B3 B9 B10 : Nat) (kp la lim : Int) (N : List Plc) (Q : List (Int × Int × List Int)) (K : Int) : Prop :=
  ∃ a c l aq cq rs, DV w B3 kp la lim a (List.length l) c ∧ l.map Plc.nm = N ∧ w.ownsRow N0 77 7 (.slice a (List.length l) c) (List.length l) (pv l) ∧ (∀ p ∈ l, PT w p) ∧
    AV w B9 aq (List.length rs) cq ∧ rs.map Aq.nm = Q ∧ w.ownsRow N0 75 3 (.slice aq (List.length rs) cq) (List.length rs) (aqv rs) ∧ (∀ r ∈ rs, QOk w r.2) ∧ CV w B10 K
/-- A record is taken. -/
def stp (kp la lim po : Int) (st : List Plc × List (Int × Int × List Int) × Int) (r : Int × Int × List Int) : List Plc × List (Int × Int × List Int) × Int :=
  match hd9 kp la lim st.1 po r.1 r.2.1 r.2.2 with
  | none => (st.1, st.2.1, st.2.2 + 1)
  | some (N, q) => (N, st.2.1 ++ q.map (fun x => (po, x)), st.2.2)
theorem ltK_nm (id : Int) (l : List Plc) : ltK id (l.map Plc.nm) = (ltK id l).map Plc.nm := by unfold ltK; rw [List.filter_map]; rfl
theorem gtK_nm (id : Int) (l : List Plc) : gtK id (l.map Plc.nm) = (gtK id l).map Plc.nm := by unfold gtK; rw [List.filter_map]; rfl
theorem at9_nm (id : Int) (l : List Plc) : at9 id (l.map Plc.nm) = (at9 id l).map Plc.nm := by unfold at9; rw [List.find?_map]; rfl
theorem map_nm2 (l : List Plc) : (l.map Plc.nm).map Plc.nm = l.map Plc.nm := by rw [List.map_map]; rfl
theorem hd9_nm (kp la lim : Int) (l : List Plc) (po ty g : Int) (xs : List Int) : hd9 kp la lim (l.map Plc.nm) po ty g xs = hd9 kp la lim l po ty g xs := by
  unfold hd9
  rw [ltK_nm, gtK_nm, at9_nm, map_nm2, map_nm2]
  cases at9 (po * 4294967296 + g) l <;> rfl
theorem ris_nm {l : List Plc} : Ris9 (l.map Plc.nm) ↔ Ris9 l := by unfold Ris9; rw [List.pairwise_map]; exact Iff.rfl
theorem okP_nm (p : Plc) : okP p.nm ↔ okP p := Iff.rfl
set_option maxRecDepth 100000 in
set_option maxHeartbeats 8000000 in
theorem dTake (N0 B3 B4 B9 B10 : Nat) (kp la lim po K : Int) (N : List Plc) (Q : List (Int × Int × List Int)) (ty rg : Int) (b : Option Addr) (ln lc : Nat) (xs : List Int) (w : World)
    (hN : N0 ≤ B3 ∧ N0 ≤ B9 ∧ N0 ≤ B10 ∧ (B3 ≠ B9 ∧ B3 ≠ B10 ∧ B9 ≠ B10)) (hS : HSt w N0 B3 B9 B10 kp la lim N Q K) (hp : IV w B4 po) (hok : okD kp la lim N) (hpo : isI po) (hg : 0 ≤ rg ∧ rg ≤ 4294967295)
    (hl : xs.length = ln) (hln : ln ≤ 3000) (hA : As w b xs) (hfl : b = none → lc = 0) (hK : 0 ≤ K ∧ K ≤ 100000) (hQ : Q.length ≤ 100000) (hq2 : ∀ N' q, hd9 kp la lim N po ty rg xs = some (N', q) → q.length ≤ 2) :
    Calls Tryz.prog 52 #[.agg #[.int .u8 ty, .int .u32 rg, .slice b ln lc], .pointer (some ⟨B3, 0, none⟩), .pointer (some ⟨B4, 0, none⟩), .pointer (some ⟨B10, 0, none⟩), .pointer (some ⟨B9, 0, none⟩)] w fun e w' =>
      e = .returned (.tuple #[]) ∧ HSt w' N0 B3 B9 B10 kp la lim (stp kp la lim po (N, Q, K) (ty, rg, xs)).1 (stp kp la lim po (N, Q, K) (ty, rg, xs)).2.1 (stp kp la lim po (N, Q, K) (ty, rg, xs)).2.2 ∧ KT w w' ∧ KD B3 w w' ∧ Below N0 w w' := by
  obtain ⟨i0, hi, hz0, hz1, hz2⟩ := info_parts infoPq
  obtain ⟨a, c, l, aq, cq, rs, hv3, hnm, hown, hpt, hv9, hqn, hqo, hqk, hv10⟩ := hS
  obtain ⟨n, hn⟩ : ∃ n, l.length = n := ⟨_, rfl⟩
  rw [hn] at hv3 hown
  have hokl : Ris9 l ∧ (∀ p ∈ l, okP p) ∧ mayP kp la ∧ n ≤ 256 := by
    obtain ⟨h1, h2, h3, h4, h5⟩ := hok
    rw [← hnm] at h3 h4 h5
    rw [List.length_map, hn] at h3
    exact ⟨ris_nm.1 h4, fun p hp => (okP_nm p).1 (h5 _ (List.mem_map_of_mem hp)), h1, by omega⟩
  have hB3 : N0 ≤ w.heap.size := by have := hv3.lt; omega
  have hbn := bel1 w (.cells #[.int .u8 ty, .int .u32 rg, .slice b ln lc] 102)
  have HC := Lib.hid (fun W (hW : Below w.heap.size w W) => dHeard kp la lim a n c l po ty rg b ln lc xs N0 W (Nat.le_trans hB3 hW.size) hn (by have := hokl.2.2.2; omega) (own_grown hown hW (Nat.le_refl _)) (fun p hp => (hpt p hp).below hW) hokl.1 hokl.2.1 hokl.2.2.1 hpo hg hl hln (hA.below hW) hfl)
  have HNN := Lib.hid hN
  have HKK := Lib.hid hK
  have HN := Lib.hid hn
  have HNM := Lib.hid hnm
  have HQN := Lib.hid hqn
  have HQL : Hid (rs.length ≤ 100000) := Lib.hid (by rw [← hqn, List.length_map] at hQ; exact hQ)
  have HQ2 := Lib.hid hq2
  have V3 := Lib.hid (hv3.below hbn hv3.lt)
  have V4 := Lib.hid (hp.below hbn hp.lt)
  have V9 := Lib.hid (hv9.below hbn hv9.lt)
  have V10 := Lib.hid (hv10.below hbn hv10.lt)
  have HOW := Lib.hid (own_grown hown hbn (Nat.le_refl _))
  have HPT : Hid (∀ p ∈ l, PT _ p) := Lib.hid (fun p hp => (hpt p hp).below hbn)
  have HQO := Lib.hid (own_grown hqo hbn (Nat.le_refl _))
  have HQK : Hid (∀ r ∈ rs, QOk _ r.2) := Lib.hid (fun r hr => (hqk r hr).below hbn)
  have HKT := Lib.hid (KT.of_below hbn)
  have HKD := Lib.hid (KD.of_below (B := B3) hbn)
  have HB1 := Lib.hid hbn
  have HB3 := Lib.hid hB3
  clear hN hv3 hnm hown hpt hv9 hqn hqo hqk hv10 hn hp hok hpo hg hl hln hA hfl hK hQ hq2 hokl hB3 hbn
  go_enter Tryz.func52, Tryz.ntmps52
  obtain ⟨c0, c1, c2, c3, -⟩ := V3.out.cells
  obtain ⟨d0, -⟩ := V4.out.cells
  go_wp2_with fail
  generalize w.alloc (.cells #[.int .u8 ty, .int .u32 rg, .slice b ln lc] 102) = w1 at *
  refine (HC.out w1 HB1.out).mono ?_
  rintro e w2 ⟨hm, hb2⟩
  have hst : ∀ N' Q' K', stp kp la lim po (N, Q, K) (ty, rg, xs) = (N', Q', K') → True := fun _ _ _ _ => trivial
  have hres : hd9 kp la lim l po ty rg xs = hd9 kp la lim N po ty rg xs := by rw [← HNM.out, hd9_nm]
  rw [hres] at hm
  have V32 := Lib.hid (V3.out.below hb2 V3.out.lt)
  have V42 := Lib.hid (V4.out.below hb2 V4.out.lt)
  have V92 := Lib.hid (V9.out.below hb2 V9.out.lt)
  have V102 := Lib.hid (V10.out.below hb2 V10.out.lt)
  have HOW2 := Lib.hid (own_grown HOW.out hb2 (Nat.le_refl _))
  have HPT2 : Hid (∀ p ∈ l, PT w2 p) := Lib.hid (fun p hp => (HPT.out p hp).below hb2)
  have HQO2 := Lib.hid (own_grown HQO.out hb2 (Nat.le_refl _))
  have HQK2 : Hid (∀ r ∈ rs, QOk w2 r.2) := Lib.hid (fun r hr => (HQK.out r hr).below hb2)
  have HKT2 := Lib.hid (HKT.out.trans (KT.of_below hb2))
  have HKD2 := Lib.hid (HKD.out.trans (KD.of_below hb2))
  have HB2 := Lib.hid (HB1.out.trans (hb2.mono HB1.out.size))
  have HNW1 : Hid (N0 ≤ w1.heap.size) := Lib.hid (Nat.le_trans HB3.out HB1.out.size)
  clear c0 c1 c2 c3 d0 hb2 V3 V4 V9 V10 HOW HPT HQO HQK HKT HB1 HC hres hst
  cases hh : hd9 kp la lim N po ty rg xs with
  | none =>
    rw [hh] at hm
    obtain ⟨er, her, rfl⟩ := hm
    have HST : Hid (stp kp la lim po (N, Q, K) (ty, rg, xs) = (N, Q, K + 1)) := Lib.hid (by unfold stp; simp only [hh])
    have her' : (er != 0) = true := by simpa using her
    clear hh her
    obtain ⟨y0, y1⟩ := V102.out.cells
    go_wp2_with fail
    refine (aAdd B10 K w2 y0 y1 (by have := HKK.out; omega)).mono ?_
    rintro e w3 ⟨rfl, rfl⟩
    have B1 := But1.set w2 B10 0 (.int .i64 (K + 1))
    have hx : w2.heap[B10]? = some (.cells _ 109 (0, 0)) := V102.out
    have V103 := V102.out.set0 (K + 1)
    have V33 := V32.out.but B1 HNN.out.2.2.2.2.1
    have V93 := V92.out.but B1 HNN.out.2.2.2.2.2
    have KT3 := KT.of_but hx (.inr (.inr (.inl rfl))) B1
    have HOW3 := own_kt HOW2.out KT3 (by decide) (by decide) (by decide) (by decide)
    have HQO3 := vown_ty HQO2.out hx (by decide) B1
    have HF : Hid (HSt (w2.setCell ⟨B10, 0, none⟩ (.int .i64 (K + 1))) N0 B3 B9 B10 kp la lim N Q (K + 1)) := Lib.hid ⟨a, c, l, aq, cq, rs, by rw [HN.out]; exact V33, HNM.out, by rw [HN.out]; exact HOW3, fun p hp => (HPT2.out p hp).kt KT3, V93, HQN.out, HQO3, fun r hr => (HQK2.out r hr).kt KT3, V103⟩
    have HK3 := Lib.hid (HKT2.out.trans KT3)
    have HKD3 := Lib.hid (HKD2.out.trans (KD.of_ty hx (by decide) B1))
    have HB3' := Lib.hid ((HB2.out.mono HB3.out).trans (B1.below HNN.out.2.2.1 (Nat.le_trans HB3.out HB2.out.size)))
    clear y0 y1 B1 hx V103 V33 V93 KT3 HOW3 HQO3
    generalize w2.setCell ⟨B10, 0, none⟩ (.int .i64 (K + 1)) = w3 at *
    go_wp2_with fail
    refine ret_t0 rfl rfl ?_
    rw [HST.out]
    exact ⟨rfl, HF.out, HK3.out, HKD3.out, HB3'.out⟩
  | some res =>
    obtain ⟨N', q⟩ := res
    rw [hh] at hm
    obtain ⟨a5, c5, F, aa, cc, qs, rfl, hFN, hFo, hFp, hqq, hQs⟩ := hm
    have HST : Hid (stp kp la lim po (N, Q, K) (ty, rg, xs) = (N', Q ++ q.map (fun x => (po, x)), K)) := Lib.hid (by unfold stp; simp only [hh])
    have hq2 := HQ2.out N' q hh
    obtain ⟨m, hm⟩ : ∃ m, qs.length = m := ⟨_, rfl⟩
    have HM := Lib.hid hm
    have hm2 : m ≤ 2 := by rw [← hqq, List.length_map] at hq2; omega
    obtain ⟨nf, hnf⟩ : ∃ nf, F.length = nf := ⟨_, rfl⟩
    rw [hm, hnf]
    rw [hnf] at hFo
    have HNF := Lib.hid hnf
    have HFN := Lib.hid hFN
    have HFO := Lib.hid (vown_le hFo HNW1.out)
    have HFP := Lib.hid hFp
    have HQQ := Lib.hid hqq
    have HQS := Lib.hid hQs
    clear hh hFN hFo hFp hqq hQs hq2 hm hnf HOW2 HPT2 HNM HN HQ2
    obtain ⟨c0, c1, c2, c3, f0, f1, f2, f3⟩ := V32.out.cells
    go_wp2_with fail
    have B1 := But1.set w2 B3 3 (.slice a5 nf c5)
    have hx : w2.heap[B3]? = some (.cells _ 46 (0, 0)) := V32.out
    have KT3 := KT.of_but hx (.inl rfl) B1
    have V33 := Lib.hid (V32.out.set3 a5 nf c5)
    have V43 : Hid (IV _ B4 po) := Lib.hid (KT3 _ _ _ _ V42.out (by decide) (by decide) (by decide) (by decide))
    have V93 := Lib.hid (V92.out.but B1 (fun e => HNN.out.2.2.2.1 e.symm))
    have V103 := Lib.hid (V102.out.but B1 (fun e => HNN.out.2.2.2.2.1 e.symm))
    have HFO3 := Lib.hid (own_kt HFO.out KT3 (by decide) (by decide) (by decide) (by decide))
    have HFP3 : Hid (∀ p ∈ F, PT _ p) := Lib.hid (fun p hp => (HFP.out p hp).kt KT3)
    have HQO3 := Lib.hid (vown_ty HQO2.out hx (by decide) B1)
    have HQK3 : Hid (∀ r ∈ rs, QOk _ r.2) := Lib.hid (fun r hr => (HQK2.out r hr).kt KT3)
    have HQS3 : Hid (Qs _ w1.heap.size aa cc qs) := Lib.hid (HQS.out.ty hx (by decide) (by decide) B1)
    have HKT3 := Lib.hid (HKT2.out.trans KT3)
    have HKD3 := Lib.hid (HKD2.out.trans (KD.of_self B1))
    have HBB3 := Lib.hid ((HB2.out.mono HB3.out).trans (B1.below HNN.out.1 (Nat.le_trans HB3.out HB2.out.size)))
    clear c0 c1 c2 c3 f0 f1 f2 f3 B1 hx KT3 V32 V42 V92 V102 HFO HFP HQO2 HQK2 HQS HKT2 HB2
    generalize w2.setCell ⟨B3, 3, none⟩ (.slice a5 nf c5) = w3 at *
    go_loopw [26] (fun v26 wr => ∃ (j : Nat) (aq' : Option Addr) (cq' : Nat), v26 = .int .i64 (j : Int) ∧ j ≤ m ∧ AV wr B9 aq' (rs.length + j) cq' ∧ wr.ownsRow N0 75 3 (.slice aq' (rs.length + j) cq') (rs.length + j) (aqv (rs ++ (qs.take j).map fun r => (po, r))) ∧
      DV wr B3 kp la lim a5 nf c5 ∧ CV wr B10 K ∧ KT w3 wr ∧ KD B3 w3 wr ∧ Below N0 w3 wr) (fun v _ => m - (intOf v).toNat)
    case atStart => exact ⟨0, aq, cq, rfl, by omega, V93.out, by simpa using HQO3.out, V33.out, V103.out, KT.refl _, KD.refl _ _, Below.refl _ _⟩
    case round =>
      obtain ⟨j, aq', cq', rfl, hj, hV9, hO, hV3, hV10, hK3, hD3, hB3⟩ := hrel
      have HO := Lib.hid hO
      have V3 := Lib.hid hV3
      have V10 := Lib.hid hV10
      have HK3 := Lib.hid hK3
      have HD3 := Lib.hid hD3
      have HBR := Lib.hid hB3
      have HNR : Hid (N0 ≤ wr.heap.size) := Lib.hid (Nat.le_trans HNN.out.1 (Nat.le_of_lt hV3.lt))
      by_cases hlt : j < m
      · obtain ⟨r, hr⟩ : ∃ r, qs[j]? = some r := ⟨_, List.getElem?_eq_getElem (by rw [HM.out]; exact hlt)⟩
        obtain ⟨g, rfl, e0, e1⟩ := (HQS3.out.kt hK3).at hr
        have HR := Lib.hid hr
        have V4 : IV wr B4 po := hK3 _ _ _ _ V43.out (by decide) (by decide) (by decide) (by decide)
        obtain ⟨g1, x1, a1, c1⟩ := r
        obtain ⟨n1, hn1⟩ : ∃ n1, x1.length = n1 := ⟨_, rfl⟩
        unfold Qr.sl at e1
        simp only [hn1] at e0 e1
        have HN1 := Lib.hid hn1
        obtain ⟨y0, y1⟩ := hV9.cells
        obtain ⟨d0, -⟩ := V4.cells
        have hjm : (j : Int) < (m : Int) := by omega
        have hbn := bel1 wr (.cells #[.int .u32 g1, .slice a1 n1 c1] 73)
        have hbn2 := bel1 (wr.alloc (.cells #[.int .u32 g1, .slice a1 n1 c1] 73)) (.cells #[.int .i64 po, .int .u32 g1, .slice a1 n1 c1] 75)
        have hw1 : B9 < wr.heap.size := hV9.lt
        have hw4 : B4 < wr.heap.size := V4.lt
        have V9A := Lib.hid ((hV9.below hbn hV9.lt).below hbn2 (hV9.below hbn hV9.lt).lt)
        have V3A := Lib.hid ((hV3.below hbn hV3.lt).below hbn2 (hV3.below hbn hV3.lt).lt)
        have V10A := Lib.hid ((hV10.below hbn hV10.lt).below hbn2 (hV10.below hbn hV10.lt).lt)
        have HKA := Lib.hid ((KT.of_below hbn).trans (KT.of_below hbn2))
        have HDA := Lib.hid ((KD.of_below (B := B3) hbn).trans (KD.of_below hbn2))
        have HBA := Lib.hid (hbn.trans (hbn2.mono hbn.size))
        have hN := qrow_new (wr.alloc (.cells #[.int .u32 g1, .slice a1 n1 c1] 73)) po g1 a1 n1 c1
        rw [World.size_alloc] at hN
        have HNW := Lib.hid hN
        clear hr hn1 hV9 hO hV3 hV10 hK3 hD3 hB3 V4 hbn hbn2 hN
        go_wp2_with ((refine wpList_app_cell rfl 52 75 i0 _ 3 40 Tryz.underlying52 hi hz0 hz1 hz2 rfl (by decide) (by omega) (.tmp 30) (.tmp 34) rfl N0 _ (rs.length + j) (aqv (rs ++ (qs.take j).map fun r => (po, r))) rfl ((HO.out.alloc _).alloc _) ⟨wr.heap.size + 1, 0, none⟩ 1 [.int .i64 po, .int .u32 g1, .slice a1 n1 c1] rfl rfl HNW.out (by simp [Value.oneCell']) (by have := HQL.out; omega) (by have := HNR.out; simp; omega) ?_; intro a' cap' w' hown hg; have V9B := Lib.hid (blk9 V9A.out ((HO.out.alloc _).alloc _) (by decide) hg.out); have V3B := Lib.hid (blk9 V3A.out ((HO.out.alloc _).alloc _) (by decide) hg.out); have V10B := Lib.hid (blk9 V10A.out ((HO.out.alloc _).alloc _) (by decide) hg.out); have HKB := Lib.hid (HKA.out.trans (KT.of_grown ((HO.out.alloc _).alloc _) hg.out)); have HDB := Lib.hid (HDA.out.trans (KD.of_grown ((HO.out.alloc _).alloc _) hg.out)); have HBB := Lib.hid ((HBA.out.mono HNR.out).trans (grown_below ((HO.out.alloc _).alloc _) hg.out (Nat.le_trans HNR.out HBA.out.size))); clear y0 y1; obtain ⟨y0, y1⟩ := AV.cells V9B.out))
        have V9C : AV w' B9 aq' (rs.length + j) cq' := V9B.out
        have hx9 : w'.heap[B9]? = some (.cells _ 52 (0, 0)) := V9B.out
        have B9b := But1.set w' B9 0 (.slice a' (rs.length + j + 1) cap')
        have hsz : N0 ≤ w'.heap.size := Nat.le_trans HNR.out HBB.out.size
        go_roundw
        case rel =>
          refine ⟨j + 1, a', cap', by go_num, by omega, V9C.set0 a' (rs.length + j + 1) cap', ?_, DV.but V3B.out B9b HNN.out.2.2.2.1, CV.but V10B.out B9b (fun e => HNN.out.2.2.2.2.2 e.symm), HK3.out.trans (HKB.out.trans (KT.of_but hx9 (.inr (.inl rfl)) B9b)), HD3.out.trans (HDB.out.trans (KD.of_ty hx9 (by decide) B9b)), HBR.out.trans (HBB.out.trans (B9b.below HNN.out.2.1 hsz))⟩
          have h1 := vown_ty hown.out hx9 (by decide) B9b
          rw [takeH HR.out, List.map_append, ← List.append_assoc, aqv_append]
          have e2 : aqv (List.map (fun r => (po, r)) [(⟨g1, x1, a1, c1⟩ : Qr)]) = [.int .i64 po, .int .u32 g1, .slice a1 n1 c1] := by simp [aqv, Qr.sl, HN1.out]
          rw [e2]
          exact h1
        case measure => simp [intOf]; omega
      · obtain rfl : j = m := by omega
        have htk : qs.take j = qs := List.take_of_length_le (by rw [HM.out]; exact Nat.le_refl _)
        have hO2 := HO.out
        rw [htk] at hO2
        have HF : Hid (HSt wr N0 B3 B9 B10 kp la lim N' (Q ++ q.map fun x => (po, x)) K) := Lib.hid (by
          refine ⟨a5, c5, F, aq', cq', rs ++ qs.map (fun r => (po, r)), by rw [HNF.out]; exact hV3, HFN.out, by rw [HNF.out]; exact own_kt HFO3.out hK3 (by decide) (by decide) (by decide) (by decide), fun p hp => (HFP3.out p hp).kt hK3, ?_, ?_, ?_, ?_, hV10⟩
          · rw [List.length_append, List.length_map, HM.out]; exact hV9
          · rw [List.map_append, HQN.out, ← HQQ.out, List.map_map, List.map_map]; rfl
          · rw [List.length_append, List.length_map, HM.out]; exact hO2
          · intro r hr
            rcases List.mem_append.1 hr with h1 | h1
            · exact (HQK3.out r h1).kt hK3
            · obtain ⟨r', h2, rfl⟩ := List.mem_map.1 h1
              exact (HQS3.out.2 r' h2).kt hK3)
        have HK4 := Lib.hid (HKT3.out.trans hK3)
        have HKD4 := Lib.hid (HKD3.out.trans hD3)
        have HB4 := Lib.hid (HBB3.out.trans hB3)
        clear hO2 htk hV9 hO hV3 hV10 hK3 hD3 hB3
        go_wp2_with fail
        refine ret_n0 rfl rfl ?_
        rw [HST.out]
        exact ⟨rfl, HF.out, HK4.out, HKD4.out, HB4.out⟩
end Go.Proofs.YtiabbkjmgaemaaaGreat
/- What records do to places (plain); records of a message; a place of an older version. -/
namespace Go.Proofs.YtiabbkjmgaemaaaGreat
set_option linter.unusedVariables false
open Go.RowKit

theorem askQ_len1 (g : Int) (xs : List Int) : (askQ g xs).length ≤ 1 := by unfold askQ; split <;> simp
theorem hrP_q (kp la v1 v2 g : Int) (ex : Bool) (left : Int) (s : List Hd) (ty : Int) (xs : List Int) : (hrP kp la v1 v2 g ex left s ty xs).q.length ≤ 2 := by
  have hc : ∀ r : Hr, r.q.length ≤ 2 → (capH ex left s r).q.length ≤ 2 := by
    intro r hr
    unfold capH
    split
    · exact hr
    · simp
  unfold hrP
  split
  · simp
  · unfold hearP
    split
    · exact hc _ (by simp [hAllow])
    · split
      · exact hc _ (by simp [hIsEx])
      · split
        · exact hc _ (by
            unfold hToIn
            simp only [List.length_append]
            have := askQ_len1 g (dif (wantS (keepS s (mk (srcsP v1 v2 ty xs)) kp)) (mk (srcsP v1 v2 ty xs)))
            split <;> simp <;> omega)
        · split
          · exact hc _ (by unfold hToEx; exact Nat.le_trans (askQ_len1 _ _) (by omega))
          · split
            · exact hc _ (by unfold hBlock; exact Nat.le_trans (askQ_len1 _ _) (by omega))
            · simp
theorem hrP_ok {kp la v1 v2 g : Int} {ex : Bool} {left : Int} {s : List Hd} (ty : Int) (xs : List Int) (ht : mayP kp la) (h : okM g ex left s) :
    okM g (hrP kp la v1 v2 g ex left s ty xs).ex (hrP kp la v1 v2 g ex left s ty xs).left (hrP kp la v1 v2 g ex left s ty xs).s := by
  unfold hrP
  split
  · exact h
  · exact hear_ok ty _ ht h
theorem okM_new {g : Int} (h : vAskd g = true) : okM g false 0 [] := ⟨h, by simp, by simp [okL], by simp, by simp [ad, Inc]⟩
theorem hd9_okD {kp la lim : Int} {N N' : List Plc} {po ty g : Int} {xs : List Int} {q : List (Int × List Int)} (hok : okD kp la lim N) (hpo : 0 ≤ po ∧ po ≤ 63) (hg : vAskd g = true) (h : hd9 kp la lim N po ty g xs = some (N', q)) : okD kp la lim N' ∧ q.length ≤ 2 := by
  obtain ⟨h1, h2, h3, h4, h5⟩ := hok
  unfold hd9 at h
  simp only at h
  generalize hp : (at9 (po * 4294967296 + g) N).getD ⟨po, 0, 0, g, false, 0, [], none, 0⟩ = p at h
  have hpo' : (0 ≤ p.v1 ∧ p.v1 ≤ 1000000) ∧ (0 ≤ p.v2 ∧ p.v2 ≤ 1000000) ∧ okM g p.ex p.left p.s := by
    cases ha : at9 (po * 4294967296 + g) N with
    | none => rw [ha] at hp; subst hp; exact ⟨by simp, by simp, okM_new hg⟩
    | some p' =>
      rw [ha] at hp
      simp only [Option.getD_some] at hp
      subst hp
      have hm := List.mem_of_find?_eq_some ha
      have hk := List.find?_some ha
      simp only [beq_iff_eq] at hk
      have ho := h5 p' hm
      have hgp : vAskd p'.g = true := ho.2.2.2.1.1
      have hgr : 0 ≤ p'.g ∧ p'.g ≤ 4294967295 := by unfold vAskd at hgp; simp at hgp; omega
      have hgr2 : 0 ≤ g ∧ g ≤ 4294967295 := by unfold vAskd at hg; simp at hg; omega
      have he := (key_eq hgr hgr2).1 hk
      rw [← he.2]
      exact ⟨ho.2.1, ho.2.2.1, ho.2.2.2.1⟩
  have hr := hrP_ok (v1 := p.v1) (v2 := p.v2) ty xs h1 hpo'.2.2
  have hq := hrP_q kp la p.v1 p.v2 g p.ex p.left p.s ty xs
  generalize hrP kp la p.v1 p.v2 g p.ex p.left p.s ty xs = r at h hr hq
  by_cases he : r.er = 0
  · rw [if_pos he] at h
    generalize hmid : (if sm ⟨po, p.v1, p.v2, g, r.ex, r.left, r.s, none, 0⟩ then [(⟨po, p.v1, p.v2, g, r.ex, r.left, r.s, none, 0⟩ : Plc)] else []) = mid at h
    split at h
    · cases h
    · rename_i hl
      simp only [Option.some.injEq, Prod.mk.injEq] at h
      obtain ⟨rfl, rfl⟩ := h
      refine ⟨⟨h1, h2, by omega, ?_, ?_⟩, hq⟩
      · unfold Ris9 at h4 ⊢
        rw [List.pairwise_append, List.pairwise_append]
        have hmk : ∀ y ∈ mid, y.k = po * 4294967296 + g := by
          intro y hy
          rw [← hmid] at hy
          split at hy
          · obtain rfl : y = _ := by simpa using hy
            rfl
          · cases hy
        have hlk : ∀ x ∈ (ltK (po * 4294967296 + g) N).map Plc.nm, x.k < po * 4294967296 + g := by
          intro x hx
          obtain ⟨x', hx', rfl⟩ := List.mem_map.1 hx
          have := (List.mem_filter.1 hx').2
          rw [nm_k]; simpa using this
        have hgk : ∀ x ∈ (gtK (po * 4294967296 + g) N).map Plc.nm, po * 4294967296 + g < x.k := by
          intro x hx
          obtain ⟨x', hx', rfl⟩ := List.mem_map.1 hx
          have := (List.mem_filter.1 hx').2
          rw [nm_k]; simpa using this
        have hpw : ∀ q : Plc → Bool, ((N.filter q).map Plc.nm).Pairwise fun p q => p.k < q.k := by
          intro q
          rw [List.pairwise_map]
          exact List.Pairwise.sublist List.filter_sublist h4
        refine ⟨hpw _, ⟨?_, hpw _, fun x hx y hy => ?_⟩, fun x hx y hy => ?_⟩
        · rw [← hmid]; split <;> simp
        · rw [hmk x hx]; exact hgk y hy
        · have h1 := hlk x hx
          rcases List.mem_append.1 hy with h6 | h6
          · rw [hmk y h6]; exact h1
          · have := hgk y h6; omega
      · intro x hx
        rcases List.mem_append.1 hx with h6 | h6
        · obtain ⟨x', hx', rfl⟩ := List.mem_map.1 h6
          exact (okP_nm x').2 (h5 x' (List.mem_filter.1 hx').1)
        · rcases List.mem_append.1 h6 with h7 | h7
          · rw [← hmid] at h7
            split at h7
            · rename_i hsm
              obtain rfl : x = _ := by simpa using h7
              exact ⟨hpo, hpo'.1, hpo'.2.1, hr, hsm⟩
            · cases h7
          · obtain ⟨x', hx', rfl⟩ := List.mem_map.1 h7
            exact (okP_nm x').2 (h5 x' (List.mem_filter.1 hx').1)
  · rw [if_neg he] at h
    cases h
theorem snoc9 {α : Type} {P : List α → Prop} (l : List α) (h0 : P []) (h1 : ∀ q r, P q → P (q ++ [r])) : P l := by
  have h : ∀ m : List α, P m.reverse := by
    intro m
    induction m with
    | nil => exact h0
    | cons x r ih => rw [List.reverse_cons]; exact h1 _ _ ih
  rw [← List.reverse_reverse l]
  exact h _
/-- What all records do. -/
def fold9 (kp la lim po : Int) (N : List Plc) (rl : List (Int × Int × List Int)) : List Plc × List (Int × Int × List Int) × Int := rl.foldl (stp kp la lim po) (N, [], 0)
theorem fold9_ok {kp la lim po : Int} {N : List Plc} (hok : okD kp la lim N) (hpo : 0 ≤ po ∧ po ≤ 63) : ∀ (rl : List (Int × Int × List Int)), (∀ r ∈ rl, vAskd r.2.1 = true) →
    okD kp la lim (fold9 kp la lim po N rl).1 ∧ (fold9 kp la lim po N rl).2.1.length ≤ 2 * rl.length ∧ 0 ≤ (fold9 kp la lim po N rl).2.2 ∧ (fold9 kp la lim po N rl).2.2 ≤ rl.length := by
  intro rl
  unfold fold9
  refine snoc9 (P := fun rl => (∀ r ∈ rl, vAskd r.2.1 = true) → okD kp la lim (rl.foldl (stp kp la lim po) (N, [], 0)).1 ∧ (rl.foldl (stp kp la lim po) (N, [], 0)).2.1.length ≤ 2 * rl.length ∧ 0 ≤ (rl.foldl (stp kp la lim po) (N, [], 0)).2.2 ∧ (rl.foldl (stp kp la lim po) (N, [], 0)).2.2 ≤ rl.length) rl ?_ ?_
  · intro _; exact ⟨hok, by simp, by simp, by simp⟩
  · intro q r ih hg
    obtain ⟨i1, i2, i3, i4⟩ := ih (fun x hx => hg x (List.mem_append_left _ hx))
    rw [List.foldl_append]
    simp only [List.foldl_cons, List.foldl_nil, List.length_append, List.length_cons, List.length_nil]
    generalize q.foldl (stp kp la lim po) (N, [], 0) = st at i1 i2 i3 i4
    unfold stp
    cases hh : hd9 kp la lim st.1 po r.1 r.2.1 r.2.2 with
    | none => simp only; exact ⟨i1, by omega, by omega, by push_cast; omega⟩
    | some x =>
      obtain ⟨N', q'⟩ := x
      have h := hd9_okD i1 hpo (hg r (by simp)) hh
      simp only [List.length_append, List.length_map]
      exact ⟨h.1, by have := h.2; omega, i3, by push_cast; omega⟩
/-- A record that came in. -/
structure Rcd where
  ty : Int
  g : Int
  xs : List Int
  a : Option Addr
  c : Nat
def Rcd.nm (r : Rcd) : Int × Int × List Int := (r.ty, r.g, r.xs)
def Rcds (w : World) (a : Option Addr) (l : List Rcd) : Prop := l = [] ∨ ∃ b off, a = some ⟨b, off, none⟩ ∧ ∀ (k : Nat) r, l[k]? = some r →
  (w.cell? ⟨b, off + k * 3, none⟩ = some (.int .u8 r.ty) ∧ w.cell? ⟨b, off + k * 3 + 1, none⟩ = some (.int .u32 r.g) ∧ w.cell? ⟨b, off + k * 3 + 2, none⟩ = some (.slice r.a r.xs.length r.c)) ∧ As w r.a r.xs ∧ (r.a = none → r.c = 0)
theorem Rcds.at {w : World} {a : Option Addr} {l : List Rcd} (h : Rcds w a l) {k : Nat} (hk : k < l.length) : ∃ b off, a = some ⟨b, off, none⟩ ∧ ∀ (k : Nat) r, l[k]? = some r →
  (w.cell? ⟨b, off + k * 3, none⟩ = some (.int .u8 r.ty) ∧ w.cell? ⟨b, off + k * 3 + 1, none⟩ = some (.int .u32 r.g) ∧ w.cell? ⟨b, off + k * 3 + 2, none⟩ = some (.slice r.a r.xs.length r.c)) ∧ As w r.a r.xs ∧ (r.a = none → r.c = 0) := by
  rcases h with rfl | h
  · cases hk
  · exact h
theorem Rcds.below {w w' : World} {a : Option Addr} {l : List Rcd} (h : Rcds w a l) (hb : Below w.heap.size w w') : Rcds w' a l := by
  rcases h with h | ⟨b, off, e, hc⟩
  · exact .inl h
  · refine .inr ⟨b, off, e, fun k r hk => ?_⟩
    obtain ⟨⟨c0, c1, c2⟩, ha, hf⟩ := hc k r hk
    exact ⟨⟨(hb.cell (cell_lt c0)).trans c0, (hb.cell (cell_lt c1)).trans c1, (hb.cell (cell_lt c2)).trans c2⟩, ha.below hb, hf⟩
def recsP (kd gr : Int) (rl : List Rcd) : List (Int × Int × List Int) := if kd = 18 ∨ kd = 22 then [(2, gr, [])] else if kd = 23 then [(3, gr, [])] else if kd = 34 then rl.map Rcd.nm else []
theorem rec_new (w : World) (ty g : Int) : Rcds (w.alloc (.cells #[.int .u8 ty, .int .u32 g, .slice none 0 0] 102)) (some ⟨w.heap.size, 0, none⟩) [⟨ty, g, [], none, 0⟩] := by
  refine .inr ⟨_, 0, rfl, fun k r hk => ?_⟩
  match k with
  | 0 => simp at hk; subst hk; exact ⟨⟨cell_new w _ _ 0, cell_new w _ _ 1, cell_new w _ _ 2⟩, As.nil _ _, fun _ => rfl⟩
  | k + 1 => simp at hk
theorem rec_kt {w : World} {ty g : Int} {W : World} (k : KT (w.alloc (.cells #[.int .u8 ty, .int .u32 g, .slice none 0 0] 102)) W) : Rcds W (some ⟨w.heap.size, 0, none⟩) [⟨ty, g, [], none, 0⟩] := by
  have h := k _ _ _ _ (Go.Deep.blk_alloc_new w (.cells #[.int .u8 ty, .int .u32 g, .slice none 0 0] 102)) (by decide) (by decide) (by decide) (by decide)
  refine .inr ⟨_, 0, rfl, fun k r hk => ?_⟩
  match k with
  | 0 => simp at hk; subst hk; exact ⟨⟨by simp only [World.cell?, h]; rfl, by simp only [World.cell?, h]; rfl, by simp only [World.cell?, h]; rfl⟩, As.nil _ _, fun _ => rfl⟩
  | k + 1 => simp at hk
set_option maxRecDepth 100000 in
set_option maxHeartbeats 8000000 in
theorem dRecs (kd ve co gr : Int) (qu : Bool) (ro ev : Int) (sa : Option Addr) (sn sc : Nat) (ra : Option Addr) (rn rc : Nat) (rl : List Rcd) (w : World) (hl : rl.length = rn) :
    Calls Tryz.prog 55 #[.agg #[.int .u8 kd, .int .i64 ve, .int .u8 co, .int .u32 gr, .bool qu, .int .u8 ro, .int .u8 ev, .slice sa sn sc, .slice ra rn rc]] w fun e w' => (∃ a c rows, e = .returned (.slice a (List.length rows) c) ∧ List.map Rcd.nm rows = recsP kd gr rl ∧ ∀ W, KT w' W → Rcds W ra rl → Rcds W a rows) ∧ Below w.heap.size w w' := by
  have HL := Lib.hid hl
  clear hl
  by_cases h18 : kd = 18
  · subst h18
    have hw1 := bel1 w (.cells #[.int .u8 18, .int .i64 ve, .int .u8 co, .int .u32 gr, .bool qu, .int .u8 ro, .int .u8 ev, .slice sa sn sc, .slice ra rn rc] 49)
    have hb2 := bel1 (w.alloc (.cells #[.int .u8 18, .int .i64 ve, .int .u8 co, .int .u32 gr, .bool qu, .int .u8 ro, .int .u8 ev, .slice sa sn sc, .slice ra rn rc] 49)) (.cells #[.int .u8 2, .int .u32 gr, .slice none 0 0] 102)
    have hkt : ∀ W, KT _ W → Rcds W (some ⟨(w.alloc (.cells #[.int .u8 18, .int .i64 ve, .int .u8 co, .int .u32 gr, .bool qu, .int .u8 ro, .int .u8 ev, .slice sa sn sc, .slice ra rn rc] 49)).heap.size, 0, none⟩) [⟨2, gr, [], none, 0⟩] := fun W k => rec_kt k
    rw [World.size_alloc] at hkt
    have HB := Lib.hid (hw1.trans (hb2.mono hw1.size))
    have HKT := Lib.hid hkt
    clear hw1 hb2 hkt
    go_enter Tryz.func55, Tryz.ntmps55
    go_wp2_with fail
    go_ret
    exact ⟨⟨_, 1, [⟨2, gr, [], none, 0⟩], rfl, rfl, fun W k _ => HKT.out W k⟩, HB.out⟩
  by_cases h22 : kd = 22
  · subst h22
    have hw1 := bel1 w (.cells #[.int .u8 22, .int .i64 ve, .int .u8 co, .int .u32 gr, .bool qu, .int .u8 ro, .int .u8 ev, .slice sa sn sc, .slice ra rn rc] 49)
    have hb2 := bel1 (w.alloc (.cells #[.int .u8 22, .int .i64 ve, .int .u8 co, .int .u32 gr, .bool qu, .int .u8 ro, .int .u8 ev, .slice sa sn sc, .slice ra rn rc] 49)) (.cells #[.int .u8 2, .int .u32 gr, .slice none 0 0] 102)
    have hkt : ∀ W, KT _ W → Rcds W (some ⟨(w.alloc (.cells #[.int .u8 22, .int .i64 ve, .int .u8 co, .int .u32 gr, .bool qu, .int .u8 ro, .int .u8 ev, .slice sa sn sc, .slice ra rn rc] 49)).heap.size, 0, none⟩) [⟨2, gr, [], none, 0⟩] := fun W k => rec_kt k
    rw [World.size_alloc] at hkt
    have HB := Lib.hid (hw1.trans (hb2.mono hw1.size))
    have HKT := Lib.hid hkt
    clear hw1 hb2 hkt
    go_enter Tryz.func55, Tryz.ntmps55
    go_wp2_with fail
    go_ret
    exact ⟨⟨_, 1, [⟨2, gr, [], none, 0⟩], rfl, rfl, fun W k _ => HKT.out W k⟩, HB.out⟩
  by_cases h23 : kd = 23
  · subst h23
    have hw1 := bel1 w (.cells #[.int .u8 23, .int .i64 ve, .int .u8 co, .int .u32 gr, .bool qu, .int .u8 ro, .int .u8 ev, .slice sa sn sc, .slice ra rn rc] 49)
    have hb2 := bel1 (w.alloc (.cells #[.int .u8 23, .int .i64 ve, .int .u8 co, .int .u32 gr, .bool qu, .int .u8 ro, .int .u8 ev, .slice sa sn sc, .slice ra rn rc] 49)) (.cells #[.int .u8 3, .int .u32 gr, .slice none 0 0] 102)
    have hkt : ∀ W, KT _ W → Rcds W (some ⟨(w.alloc (.cells #[.int .u8 23, .int .i64 ve, .int .u8 co, .int .u32 gr, .bool qu, .int .u8 ro, .int .u8 ev, .slice sa sn sc, .slice ra rn rc] 49)).heap.size, 0, none⟩) [⟨3, gr, [], none, 0⟩] := fun W k => rec_kt k
    rw [World.size_alloc] at hkt
    have HB := Lib.hid (hw1.trans (hb2.mono hw1.size))
    have HKT := Lib.hid hkt
    clear hw1 hb2 hkt
    go_enter Tryz.func55, Tryz.ntmps55
    go_wp2_with fail
    go_ret
    exact ⟨⟨_, 1, [⟨3, gr, [], none, 0⟩], rfl, rfl, fun W k _ => HKT.out W k⟩, HB.out⟩
  have e18 : (kd == 18) = false := by simpa using h18
  have e22 : (kd == 22) = false := by simpa using h22
  have e23 : (kd == 23) = false := by simpa using h23
  have hw1 := bel1 w (.cells #[.int .u8 kd, .int .i64 ve, .int .u8 co, .int .u32 gr, .bool qu, .int .u8 ro, .int .u8 ev, .slice sa sn sc, .slice ra rn rc] 49)
  have HB := Lib.hid hw1
  clear hw1
  by_cases h34 : kd = 34
  · subst h34
    go_enter Tryz.func55, Tryz.ntmps55
    go_wp2_with fail
    go_ret
    obtain rfl : rl.length = rn := HL.out
    exact ⟨⟨ra, rc, rl, rfl, rfl, fun W _ h => h⟩, HB.out⟩
  · have e34 : (kd == 34) = false := by simpa using h34
    have HP : Hid (recsP kd gr rl = []) := Lib.hid (by unfold recsP; rw [if_neg (by omega), if_neg h23, if_neg h34])
    clear h18 h22 h23 h34
    go_enter Tryz.func55, Tryz.ntmps55
    go_wp2_with fail
    go_ret
    exact ⟨⟨none, 0, [], rfl, HP.out.symm, fun W _ _ => .inl rfl⟩, HB.out⟩
def agV1 (kd kp v1 : Int) : Int := if kd = 18 then kp else v1
def agV2 (kd kp v2 : Int) : Int := if kd = 22 then kp else v2
theorem mkAgedW (w : World) (po v1 v2 g : Int) (ex : Bool) (left : Int) (a : Option Addr) (n c : Nat) (u1 u2 : Int) (W : World)
    (hW : W = ((w.alloc (.cells #[.int .i64 po, .int .i64 u1, .int .i64 u2, .int .u32 g, .bool ex, .int .i64 left, .slice a n c] 77)).alloc (.cells #[.int .i64 po, .int .i64 u1, .int .i64 u2, .int .u32 g, .bool ex, .int .i64 left, .slice a n c] 77))) :
    PV W w.heap.size po u1 u2 g ex left a n c ∧ PV W (w.heap.size + 1) po u1 u2 g ex left a n c ∧ Below w.heap.size w W ∧ W.heap.size = w.heap.size + 2 := by
  subst hW
  have e0 : w.heap.size = w.heap.size := rfl
  have e1 : (w.alloc (.cells #[.int .i64 po, .int .i64 u1, .int .i64 u2, .int .u32 g, .bool ex, .int .i64 left, .slice a n c] 77)).heap.size = w.heap.size + 1 := by rw [World.size_alloc]
  have e2 : ((w.alloc (.cells #[.int .i64 po, .int .i64 u1, .int .i64 u2, .int .u32 g, .bool ex, .int .i64 left, .slice a n c] 77)).alloc (.cells #[.int .i64 po, .int .i64 u1, .int .i64 u2, .int .u32 g, .bool ex, .int .i64 left, .slice a n c] 77)).heap.size = w.heap.size + 2 := by rw [World.size_alloc, e1]
  have u0 := PV.new w po u1 u2 g ex left a n c
  have u1 := PV.new (w.alloc (.cells #[.int .i64 po, .int .i64 u1, .int .i64 u2, .int .u32 g, .bool ex, .int .i64 left, .slice a n c] 77)) po u1 u2 g ex left a n c
  rw [e1] at u1
  exact ⟨(u0.keep _), u1, (((Below.refl _ w).alloc (by exact Nat.le_refl _) _).alloc (by rw [e1]; omega) _), e2⟩
set_option maxRecDepth 100000 in
set_option maxHeartbeats 8000000 in
theorem dAged (po v1 v2 g : Int) (ex : Bool) (left : Int) (a : Option Addr) (n c : Nat) (kd kp : Int) (w : World) :
    Calls Tryz.prog 57 #[.agg #[.int .i64 po, .int .i64 v1, .int .i64 v2, .int .u32 g, .bool ex, .int .i64 left, .slice a n c], .int .u8 kd, .int .i64 kp] w fun e w' => e = .returned (.agg #[.int .i64 po, .int .i64 (agV1 kd kp v1), .int .i64 (agV2 kd kp v2), .int .u32 g, .bool ex, .int .i64 left, .slice a n c]) ∧ Below w.heap.size w w' := by
  by_cases h18 : kd = 18
  · subst h18
    have HE : Hid (agV1 18 kp v1 = kp ∧ agV2 18 kp v2 = v2) := Lib.hid ⟨rfl, rfl⟩
    obtain ⟨w2, hw2⟩ : ∃ w2, w2 = (w.alloc (.cells #[.int .i64 po, .int .i64 kp, .int .i64 v2, .int .u32 g, .bool ex, .int .i64 left, .slice a n c] 77)).alloc (.cells #[.int .i64 po, .int .i64 kp, .int .i64 v2, .int .u32 g, .bool ex, .int .i64 left, .slice a n c] 77) := ⟨_, rfl⟩
    obtain ⟨-, hv, hb, -⟩ := mkAgedW w po v1 v2 g ex left a n c kp v2 w2 hw2
    have V := Lib.hid hv
    have HB := Lib.hid hb
    clear hv hb
    go_enter Tryz.func57, Tryz.ntmps57
    go_wp2_with fail
    rw [← hw2]
    refine ret_cell9 (p := 6) rfl rfl rfl V.out.load ?_
    rw [HE.out.1, HE.out.2]
    exact ⟨rfl, HB.out⟩
  by_cases h22 : kd = 22
  · subst h22
    have HE : Hid (agV1 22 kp v1 = v1 ∧ agV2 22 kp v2 = kp) := Lib.hid ⟨rfl, rfl⟩
    obtain ⟨w2, hw2⟩ : ∃ w2, w2 = (w.alloc (.cells #[.int .i64 po, .int .i64 v1, .int .i64 kp, .int .u32 g, .bool ex, .int .i64 left, .slice a n c] 77)).alloc (.cells #[.int .i64 po, .int .i64 v1, .int .i64 kp, .int .u32 g, .bool ex, .int .i64 left, .slice a n c] 77) := ⟨_, rfl⟩
    obtain ⟨-, hv, hb, -⟩ := mkAgedW w po v1 v2 g ex left a n c v1 kp w2 hw2
    have V := Lib.hid hv
    have HB := Lib.hid hb
    clear hv hb
    go_enter Tryz.func57, Tryz.ntmps57
    go_wp2_with fail
    rw [← hw2]
    refine ret_cell9 (p := 6) rfl rfl rfl V.out.load ?_
    rw [HE.out.1, HE.out.2]
    exact ⟨rfl, HB.out⟩
  · have e18 : (kd == 18) = false := by simpa using h18
    have e22 : (kd == 22) = false := by simpa using h22
    have HE : Hid (agV1 kd kp v1 = v1 ∧ agV2 kd kp v2 = v2) := Lib.hid ⟨by unfold agV1; rw [if_neg h18], by unfold agV2; rw [if_neg h22]⟩
    clear h18 h22
    obtain ⟨w2, hw2⟩ : ∃ w2, w2 = (w.alloc (.cells #[.int .i64 po, .int .i64 v1, .int .i64 v2, .int .u32 g, .bool ex, .int .i64 left, .slice a n c] 77)).alloc (.cells #[.int .i64 po, .int .i64 v1, .int .i64 v2, .int .u32 g, .bool ex, .int .i64 left, .slice a n c] 77) := ⟨_, rfl⟩
    obtain ⟨-, hv, hb, -⟩ := mkAgedW w po v1 v2 g ex left a n c v1 v2 w2 hw2
    have V := Lib.hid hv
    have HB := Lib.hid hb
    clear hv hb
    go_enter Tryz.func57, Tryz.ntmps57
    go_wp2_with fail
    rw [← hw2]
    refine ret_cell9 (p := 6) rfl rfl rfl V.out.load ?_
    rw [HE.out.1, HE.out.2]
    exact ⟨rfl, HB.out⟩
end Go.Proofs.YtiabbkjmgaemaaaGreat
/- A database hears a message. -/
namespace Go.Proofs.YtiabbkjmgaemaaaGreat
set_option linter.unusedVariables false
open Go.RowKit

/-- What is handed back of a database that heard. -/
def OutHear (w : World) (e : Ending) (w' : World) (kp la lim : Int) (N : List Plc) (Q : List (Int × Int × List Int)) (K : Int) : Prop :=
  (∃ a c l aq cq rs, e = .returned (.tuple #[.agg #[.int .i64 kp, .int .i64 la, .int .i64 lim, .slice a (List.length l) c], .slice aq (List.length rs) cq, .int .i64 K]) ∧ l.map Plc.nm = N ∧ w'.ownsRow w.heap.size 77 7 (.slice a (List.length l) c) (List.length l) (pv l) ∧ (∀ p ∈ l, PT w' p) ∧
    rs.map Aq.nm = Q ∧ w'.ownsRow w.heap.size 75 3 (.slice aq (List.length rs) cq) (List.length rs) (aqv rs) ∧ (∀ r ∈ rs, QOk w' r.2)) ∧ Below w.heap.size w w'
def agP (kd kp : Int) (p : Plc) : Plc := ⟨p.port, agV1 kd kp p.v1, agV2 kd kp p.v2, p.g, p.ex, p.left, p.s, p.a, p.c⟩
def agL (kd kp id : Int) (l : List Plc) : List Plc := l.map fun p => if p.k = id then agP kd kp p else p
theorem agL_no {kd kp id : Int} {l : List Plc} (h : ∀ p ∈ l, p.k ≠ id) : agL kd kp id l = l := by
  unfold agL
  conv => rhs; rw [← List.map_id l]
  exact List.map_congr_left fun p hp => by rw [if_neg (h p hp)]; rfl
theorem agL_set {kd kp id : Int} {l : List Plc} {k : Nat} {p p' : Plc} (hr : Ris9 l) (hk : l[k]? = some p) (he : p.k = id) (hp : p'.nm = (agP kd kp p).nm) : (l.set k p').map Plc.nm = agL kd kp id (l.map Plc.nm) := by
  apply List.ext_getElem?
  intro j
  unfold agL
  rw [List.map_map, List.getElem?_map, List.getElem?_map, List.getElem?_set]
  by_cases hj : k = j
  · subst hj
    have hlt := (List.getElem?_eq_some_iff.1 hk).1
    rw [if_pos rfl, if_pos hlt, hk]
    simp only [Option.map_some, Function.comp]
    rw [if_pos (show p.nm.k = id from he), hp]
    rfl
  · rw [if_neg hj]
    cases hq : l[j]? with
    | none => rfl
    | some q =>
      simp only [Option.map_some, Function.comp]
      rw [if_neg (show ¬ q.nm.k = id from ?_)]
      intro e
      have h1 := ris_inj9 hr (List.mem_of_getElem? hk) (List.mem_of_getElem? hq) (he.trans e.symm)
      subst h1
      unfold Ris9 at hr
      rw [List.pairwise_iff_getElem] at hr
      obtain ⟨a1, a2⟩ := List.getElem?_eq_some_iff.1 hk
      obtain ⟨b1, b2⟩ := List.getElem?_eq_some_iff.1 hq
      rcases Nat.lt_or_gt_of_ne hj with h | h
      · have := hr k j a1 b1 h; rw [a2, b2] at this; omega
      · have := hr j k b1 a1 h; rw [a2, b2] at this; omega
theorem mkTwoW (w : World)  (W : World)
    (hW : W = ((w.alloc (.cells #[.slice none 0 0] 52)).alloc (.cells #[.int .i64 0] 109))) :
    AV W w.heap.size none 0 0 ∧ CV W (w.heap.size + 1) 0 ∧ Below w.heap.size w W ∧ W.heap.size = w.heap.size + 2 := by
  subst hW
  have e0 : w.heap.size = w.heap.size := rfl
  have e1 : (w.alloc (.cells #[.slice none 0 0] 52)).heap.size = w.heap.size + 1 := by rw [World.size_alloc]
  have e2 : ((w.alloc (.cells #[.slice none 0 0] 52)).alloc (.cells #[.int .i64 0] 109)).heap.size = w.heap.size + 2 := by rw [World.size_alloc, e1]
  have u0 := AV.new w none 0 0
  have u1 := CV.new (w.alloc (.cells #[.slice none 0 0] 52)) 0
  rw [e1] at u1
  exact ⟨(u0.keep _), u1, (((Below.refl _ w).alloc (by exact Nat.le_refl _) _).alloc (by rw [e1]; omega) _), e2⟩
theorem ty_ne {w : World} {X Y : Nat} {cs cs' : Array Value} {T T' : TypeId} {p p' : Nat × Nat} (h : w.heap[X]? = some (.cells cs T p)) (k : w.heap[Y]? = some (.cells cs' T' p')) (hne : T ≠ T') : X ≠ Y := by
  rintro rfl
  rw [h] at k
  simp only [Option.some.injEq, Obj.cells.injEq] at k
  exact hne k.2.1
def hz9V (N X9 X10 X15 : Nat) (kp la lim : Int) (a : Option Addr) (n c : Nat) (aq : Option Addr) (nq cq : Nat) (K : Int) : Nat → Value → List Value → World → Prop
  | 0, v, _, _ => v = .agg #[.int .i64 kp, .int .i64 la, .int .i64 lim, .slice a n c]
  | 1, v, _, _ => v = .slice aq nq cq
  | 2, v, _, _ => v = .int .i64 K
  | 3, v, us, w => DV w X15 kp la lim a n c
  | 4, v, _, _ => v = .slice aq nq cq
  | 5, v, _, _ => v = .int .i64 K
  | _, _, _, _ => True
def hz9D : Nat → List Nat
  | 3 => [0]
  | 4 => [1]
  | 5 => [2]
  | _ => []
theorem hz9_st (N X9 X10 X15 : Nat) (kp la lim : Int) (a : Option Addr) (n c : Nat) (aq : Option Addr) (nq cq : Nat) (K : Int) {i j : Nat} {v : Value} {us : List Value} {w w' : World} (hij : i ≠ j) (hr : j ≠ 3 → w' = w) (hv : hz9V N X9 X10 X15 kp la lim a n c aq nq cq K i v us w) : hz9V N X9 X10 X15 kp la lim a n c aq nq cq K i v us w' := by
  unfold hz9V at hv ⊢
  split at hv
  all_goals first
    | exact hv
    | (rw [hr (fun h => hij h.symm)]; exact hv)
theorem HSt.below {w W : World} {N0 B3 B9 B10 : Nat} {kp la lim : Int} {N : List Plc} {Q : List (Int × Int × List Int)} {K : Int} (h : HSt w N0 B3 B9 B10 kp la lim N Q K) (hb : Below w.heap.size w W) : HSt W N0 B3 B9 B10 kp la lim N Q K := by
  obtain ⟨a, c, l, aq, cq, rs, h1, h2, h3, h4, h5, h6, h7, h8, h9⟩ := h
  exact ⟨a, c, l, aq, cq, rs, h1.below hb h1.lt, h2, own_grown h3 hb (Nat.le_refl _), fun p hp => (h4 p hp).below hb, h5.below hb h5.lt, h6, own_grown h7 hb (Nat.le_refl _), fun r hr => (h8 r hr).below hb, h9.below hb h9.lt⟩
theorem rows_mem {rows : List Rcd} {L : List (Int × Int × List Int)} (h : rows.map Rcd.nm = L) {r : Rcd} (hr : r ∈ rows) : r.nm ∈ L := by rw [← h]; exact List.mem_map_of_mem hr
theorem mkHearDW (w : World) (kp la lim : Int) (a : Option Addr) (n c : Nat) (po : Int) (kd ve co gr : Int) (qu : Bool) (ro ev : Int) (sa : Option Addr) (sn sc : Nat) (ra : Option Addr) (rn rc : Nat) (W : World)
    (hW : W = ((((w.alloc (.cells #[.int .i64 kp, .int .i64 la, .int .i64 lim, .slice a n c] 46)).alloc (.cells #[.int .i64 po] 3)).alloc (.cells #[.int .u8 kd, .int .i64 ve, .int .u8 co, .int .u32 gr, .bool qu, .int .u8 ro, .int .u8 ev, .slice sa sn sc, .slice ra rn rc] 49)).alloc (.cells #[.int .i64 0, .int .i64 0, .int .i64 0, .slice none 0 0] 46))) :
    DV W w.heap.size kp la lim a n c ∧ IV W (w.heap.size + 1) po ∧ GV W (w.heap.size + 2) kd ve co gr qu ro ev sa sn sc ra rn rc ∧ DV W (w.heap.size + 3) 0 0 0 none 0 0 ∧ Below w.heap.size w W ∧ W.heap.size = w.heap.size + 4 := by
  subst hW
  have e0 : w.heap.size = w.heap.size := rfl
  have e1 : (w.alloc (.cells #[.int .i64 kp, .int .i64 la, .int .i64 lim, .slice a n c] 46)).heap.size = w.heap.size + 1 := by rw [World.size_alloc]
  have e2 : ((w.alloc (.cells #[.int .i64 kp, .int .i64 la, .int .i64 lim, .slice a n c] 46)).alloc (.cells #[.int .i64 po] 3)).heap.size = w.heap.size + 2 := by rw [World.size_alloc, e1]
  have e3 : (((w.alloc (.cells #[.int .i64 kp, .int .i64 la, .int .i64 lim, .slice a n c] 46)).alloc (.cells #[.int .i64 po] 3)).alloc (.cells #[.int .u8 kd, .int .i64 ve, .int .u8 co, .int .u32 gr, .bool qu, .int .u8 ro, .int .u8 ev, .slice sa sn sc, .slice ra rn rc] 49)).heap.size = w.heap.size + 3 := by rw [World.size_alloc, e2]
  have e4 : ((((w.alloc (.cells #[.int .i64 kp, .int .i64 la, .int .i64 lim, .slice a n c] 46)).alloc (.cells #[.int .i64 po] 3)).alloc (.cells #[.int .u8 kd, .int .i64 ve, .int .u8 co, .int .u32 gr, .bool qu, .int .u8 ro, .int .u8 ev, .slice sa sn sc, .slice ra rn rc] 49)).alloc (.cells #[.int .i64 0, .int .i64 0, .int .i64 0, .slice none 0 0] 46)).heap.size = w.heap.size + 4 := by rw [World.size_alloc, e3]
  have u0 := DV.new w kp la lim a n c
  have u1 := IV.new (w.alloc (.cells #[.int .i64 kp, .int .i64 la, .int .i64 lim, .slice a n c] 46)) po
  rw [e1] at u1
  have u2 := GV.new ((w.alloc (.cells #[.int .i64 kp, .int .i64 la, .int .i64 lim, .slice a n c] 46)).alloc (.cells #[.int .i64 po] 3)) kd ve co gr qu ro ev sa sn sc ra rn rc
  rw [e2] at u2
  have u3 := DV.new (((w.alloc (.cells #[.int .i64 kp, .int .i64 la, .int .i64 lim, .slice a n c] 46)).alloc (.cells #[.int .i64 po] 3)).alloc (.cells #[.int .u8 kd, .int .i64 ve, .int .u8 co, .int .u32 gr, .bool qu, .int .u8 ro, .int .u8 ev, .slice sa sn sc, .slice ra rn rc] 49)) 0 0 0 none 0 0
  rw [e3] at u3
  exact ⟨(((u0.keep _).keep _).keep _), ((u1.keep _).keep _), (u2.keep _), u3, (((((Below.refl _ w).alloc (by exact Nat.le_refl _) _).alloc (by rw [e1]; omega) _).alloc (by rw [e2]; omega) _).alloc (by rw [e3]; omega) _), e4⟩
def haV (N g k n c : Nat) (kd kp po1 v1 v2 g1 : Int) (ex : Bool) (left : Int) (a1 : Option Addr) (n1 c1 : Nat) (l' : List Plc) (B : Nat) (W0 : World) : Nat → Value → List Value → World → Prop
  | 0, v, _, _ => v = .pointer (some ⟨N, 3, none⟩)
  | 1, v, _, _ => v = .slice (some ⟨g, 0, none⟩) n c
  | 2, v, _, _ => v = .int .i64 (k : Int)
  | 3, v, _, _ => v = .pointer (some ⟨N, 3, none⟩)
  | 4, v, _, _ => v = .slice (some ⟨g, 0, none⟩) n c
  | 5, v, _, _ => v = .int .i64 (k : Int)
  | 6, v, _, _ => v = .pointer (some ⟨g, k * 7, none⟩)
  | 7, v, _, _ => v = .agg #[.int .i64 po1, .int .i64 v1, .int .i64 v2, .int .u32 g1, .bool ex, .int .i64 left, .slice a1 n1 c1]
  | 8, v, _, _ => v = .pointer (some ⟨N + 1 + 1, 0, none⟩)
  | 9, v, _, _ => v = .int .u8 kd
  | 10, v, _, _ => v = .pointer (some ⟨N, 0, none⟩)
  | 11, v, _, _ => v = .pointer (some ⟨N, 0, none⟩)
  | 12, v, _, _ => v = .int .i64 kp
  | 13, v, _, _ => v = .agg #[.int .i64 po1, .int .i64 (agV1 kd kp v1), .int .i64 (agV2 kd kp v2), .int .u32 g1, .bool ex, .int .i64 left, .slice a1 n1 c1]
  | 14, v, _, _ => v = .pointer (some ⟨g, k * 7, none⟩)
  | 15, v, us, w => w.ownsRow B 77 7 (.slice (some ⟨g, 0, none⟩) n c) n (pv l') ∧ ∃ W, Below W0.heap.size W0 W ∧ But1 g W w
  | _, _, _, _ => True
def haD : Nat → List Nat
  | 1 => [0]
  | 4 => [3]
  | 6 => [4, 5]
  | 7 => [6]
  | 9 => [8]
  | 11 => [10]
  | 12 => [11]
  | 13 => [7, 9, 12]
  | 14 => [1, 2]
  | 15 => [14, 13]
  | _ => []
theorem ha_st (N g k n c : Nat) (kd kp po1 v1 v2 g1 : Int) (ex : Bool) (left : Int) (a1 : Option Addr) (n1 c1 : Nat) (l' : List Plc) (B : Nat) (W0 : World) {i : Nat} {v : Value} {us : List Value} {w w' : World} (h15 : i ≠ 15) (hv : haV N g k n c kd kp po1 v1 v2 g1 ex left a1 n1 c1 l' B W0 i v us w) : haV N g k n c kd kp po1 v1 v2 g1 ex left a1 n1 c1 l' B W0 i v us w' := by
  unfold haV at hv ⊢
  split at hv
  all_goals first
    | exact hv
    | exact absurd rfl h15
set_option maxRecDepth 100000 in
set_option maxHeartbeats 16000000 in
theorem dHear9 (kp la lim : Int) (a : Option Addr) (n c : Nat) (l : List Plc) (po : Int) (kd ve co gr : Int) (qu : Bool) (ro ev : Int) (sa : Option Addr) (sn sc : Nat) (ra : Option Addr) (rn rc : Nat) (rl : List Rcd) (w : World) (hx : l.length = n) (hok : okD kp la lim (l.map Plc.nm)) (hH : Pls w a l) (hpo : isI po) (hgr : 0 ≤ gr ∧ gr ≤ 4294967295) (hrn : rl.length = rn) (hR : Rcds w ra rl)
    (hrg : ∀ r ∈ recsP kd gr rl, vAskd r.2.1 = true ∧ r.2.2.length ≤ 3000) (hrc : (recsP kd gr rl).length ≤ 3000) :
    Calls Tryz.prog 23 #[.agg #[.int .i64 kp, .int .i64 la, .int .i64 lim, .slice a n c], .int .i64 po, .agg #[.int .u8 kd, .int .i64 ve, .int .u8 co, .int .u32 gr, .bool qu, .int .u8 ro, .int .u8 ev, .slice sa sn sc, .slice ra rn rc]] w fun e w' =>
      if 0 ≤ po ∧ po < 64 then OutHear w e w' kp la lim (agL kd kp (po * 4294967296 + gr) (fold9 kp la lim po (l.map Plc.nm) (recsP kd gr rl)).1) (fold9 kp la lim po (l.map Plc.nm) (recsP kd gr rl)).2.1 (fold9 kp la lim po (l.map Plc.nm) (recsP kd gr rl)).2.2
      else OutHear w e w' kp la lim (l.map Plc.nm) [] 0 := by
  have hn : n ≤ 256 := by
    have h1 := hok.2.2.1
    have h2 := hok.2.1
    rw [List.length_map, hx] at h1
    omega
  have hsr : ∀ p ∈ l, p.s.length ≤ 100000 := fun p hp => by
    have h1 := (hok.2.2.2.2 _ (List.mem_map_of_mem hp)).2.2.2.1.2.1
    have h2 : p.nm.s.length = p.s.length := rfl
    omega
  have HX := Lib.hid hx
  have HOK := Lib.hid hok
  have HPO := Lib.hid hpo
  have HGR := Lib.hid hgr
  have HRN := Lib.hid hrn
  have HRG := Lib.hid hrg
  have HRC := Lib.hid hrc
  have HSR := Lib.hid hsr
  obtain ⟨w4, hw4⟩ : ∃ w4, w4 = ((((w.alloc (.cells #[.int .i64 kp, .int .i64 la, .int .i64 lim, .slice a n c] 46)).alloc (.cells #[.int .i64 po] 3)).alloc (.cells #[.int .u8 kd, .int .i64 ve, .int .u8 co, .int .u32 gr, .bool qu, .int .u8 ro, .int .u8 ev, .slice sa sn sc, .slice ra rn rc] 49)).alloc (.cells #[.int .i64 0, .int .i64 0, .int .i64 0, .slice none 0 0] 46)) := ⟨_, rfl⟩
  obtain ⟨u0, u1, u2, u3, hb, -⟩ := mkHearDW w kp la lim a n c po kd ve co gr qu ro ev sa sn sc ra rn rc w4 hw4
  have V3 := Lib.hid u0
  have V4 := Lib.hid u1
  have V5 : Hid (GV w4 (w.heap.size + 1 + 1) kd ve co gr qu ro ev sa sn sc ra rn rc) := Lib.hid u2
  have VR : Hid (DV w4 (w.heap.size + 1 + 1 + 1) 0 0 0 none 0 0) := Lib.hid u3
  have HB := Lib.hid hb
  have HH := Lib.hid (hH.below hb)
  have HR := Lib.hid hR
  clear hx hok hH hpo hgr hrn hR hrg hrc hsr u0 u1 u2 u3 hb
  go_enter Tryz.func23, Tryz.ntmps23
  obtain ⟨c0, c1, c2, c3, -⟩ := V3.out.cells
  go_wp2_with fail
  rw [← hw4]
  clear hw4 c0 c1 c2 c3
  refine (dOwn kp la lim a n c l w4 HX.out (by omega) HH.out HSR.out).mono ?_
  rintro e w5 ⟨⟨a5, c5, l5, rfl, hnm5, ho5, hpt5⟩, hb5⟩
  obtain ⟨n5, hn5⟩ : ∃ n5, l5.length = n5 := ⟨_, rfl⟩
  rw [hn5] at ho5 ⊢
  have HN5 := Lib.hid hn5
  have HNM5 := Lib.hid hnm5
  have HZ4 : Hid (w.heap.size + 4 ≤ w4.heap.size) := Lib.hid (by have := VR.out.lt; omega)
  replace V3 := Lib.hid (V3.out.below hb5 V3.out.lt)
  replace V4 := Lib.hid (V4.out.below hb5 V4.out.lt)
  replace V5 := Lib.hid (V5.out.below hb5 V5.out.lt)
  replace VR := Lib.hid (VR.out.below hb5 VR.out.lt)
  have HB5 := Lib.hid (HB.out.trans (hb5.mono HB.out.size))
  have hx3 : w5.heap[w.heap.size]? = some (.cells _ 46 (0, 0)) := V3.out
  have B3 := V3.out.store_but kp la lim a5 n5 c5
  have V36 := Lib.hid (V3.out.store kp la lim a5 n5 c5)
  have V46 := Lib.hid (V4.out.but B3 (by omega))
  have V56 := Lib.hid (V5.out.but B3 (by omega))
  have VR6 := Lib.hid (VR.out.but B3 (by omega))
  have HO6 := Lib.hid (vown_le (vown_but ho5 B3 (by have := HZ4.out; omega)) (show w.heap.size ≤ w4.heap.size by have := HZ4.out; omega))
  have HP6 : Hid (∀ p ∈ l5, PT _ p) := Lib.hid (fun p hp => (hpt5 p hp).ty hx3 (by decide) B3)
  have HB6 := Lib.hid (HB5.out.trans (B3.below (Nat.le_refl _) HB5.out.size))
  obtain ⟨c0, c1, c2, c3, f0, f1, f2, f3⟩ := V3.out.cells
  obtain ⟨d0, -⟩ := V4.out.cells
  have hne43 : ¬ w.heap.size + 1 = w.heap.size := by omega
  clear hn5 hnm5 ho5 hpt5 hb5 hx3 B3 V3 V4 V5 VR HB5 HB HH
  go_wp2_with fail
  clear c0 c1 c2 c3 f0 f1 f2 f3 d0
  generalize ((((w5.setCell ⟨w.heap.size, 0, none⟩ (.int .i64 kp)).setCell ⟨w.heap.size, 1, none⟩ (.int .i64 la)).setCell ⟨w.heap.size, 2, none⟩ (.int .i64 lim)).setCell ⟨w.heap.size, 3, none⟩ (.slice a5 n5 c5)) = w6 at *
  refine (dIsPort po w6).mono ?_
  rintro e w6' ⟨rfl, rfl⟩
  by_cases hp64 : 0 ≤ po ∧ po < 64
  · rw [decide_eq_true hp64]
    have HP64 := Lib.hid hp64
    clear hp64
    obtain ⟨c0, c1, c2, c3, f0, f1, f2, f3⟩ := V36.out.cells
    obtain ⟨d0, -⟩ := V46.out.cells
    obtain ⟨m0, m1, m2, m3, m4, m5, m6, m7, m8, -⟩ := V56.out.cells
    have hm5' : w.heap.size + 1 + 1 < w6.heap.size := V56.out.lt
    have hm5'' : w.heap.size + 1 + 1 < w6.heap.size + 1 := Nat.lt_succ_of_lt hm5'
    go_wp2_with fail
    have hm5 : True := trivial
    have hbt := bel2 w6 (.cells #[.slice none 0 0] 52) (.cells #[.int .i64 0] 109)
    obtain ⟨w8, hw8⟩ : ∃ w8, w8 = (w6.alloc (.cells #[.slice none 0 0] 52)).alloc (.cells #[.int .i64 0] 109) := ⟨_, rfl⟩
    obtain ⟨hv9, hv10, hb8, hsz8⟩ := mkTwoW w6 w8 hw8
    rw [← hw8]
    clear hw8 hbt c0 c1 c2 c3 f0 f1 f2 f3 d0 m0 m1 m2 m3 m4 m5 m6 m7 m8
    have HST0 : Hid (HSt w8 w.heap.size w.heap.size w6.heap.size (w6.heap.size + 1) kp la lim (l.map Plc.nm) [] 0) := Lib.hid ⟨a5, c5, l5, none, 0, [], by rw [HN5.out]; exact V36.out.below hb8 V36.out.lt, HNM5.out, by rw [HN5.out]; exact own_grown (by rw [HN5.out] at *; exact HO6.out) hb8 (Nat.le_refl _), fun p hp => (HP6.out p hp).below hb8, hv9, rfl, World.ownsRow_nil _ _ _ _, fun r hr => (by cases hr), hv10⟩
    have V48 := Lib.hid (V46.out.below hb8 V46.out.lt)
    have V58 := Lib.hid (V56.out.below hb8 V56.out.lt)
    have VR8 := Lib.hid (VR6.out.below hb8 VR6.out.lt)
    have HB8 := Lib.hid (HB6.out.trans (hb8.mono HB6.out.size))
    have HZ6 : Hid (w.heap.size + 3 < w6.heap.size) := Lib.hid VR6.out.lt
    clear hv9 hv10 hb8 V36 V46 V56 VR6 HO6 HP6 HB6 HNM5 HN5
    refine (dRecs kd ve co gr qu ro ev sa sn sc ra rn rc rl w8 HRN.out).mono ?_
    rintro e w9 ⟨⟨a24, c24, rows, rfl, hrw, hrk⟩, hb9⟩
    obtain ⟨m, hm⟩ : ∃ m, rows.length = m := ⟨_, rfl⟩
    rw [hm]
    have HM := Lib.hid hm
    have HRW := Lib.hid hrw
    have HRK := Lib.hid hrk
    have HST9 := Lib.hid (HST0.out.below hb9)
    have V49 := Lib.hid (V48.out.below hb9 V48.out.lt)
    have V59 := Lib.hid (V58.out.below hb9 V58.out.lt)
    have VR9 := Lib.hid (VR8.out.below hb9 VR8.out.lt)
    have HB9 := Lib.hid (HB8.out.trans (hb9.mono HB8.out.size))
    have HM3 : Hid (m ≤ 3000) := Lib.hid (by have := HRC.out; rw [← hrw, List.length_map, hm] at this; exact this)
    clear hm hrw hrk hb9 HST0 V48 V58 VR8 HB8
    go_wp2_with fail
    go_loopw [26] (fun v26 wr => ∃ k : Nat, v26 = .int .i64 (k : Int) ∧ k ≤ m ∧ HSt wr w.heap.size w.heap.size w6.heap.size (w6.heap.size + 1) kp la lim (fold9 kp la lim po (l.map Plc.nm) ((rows.take k).map Rcd.nm)).1 (fold9 kp la lim po (l.map Plc.nm) ((rows.take k).map Rcd.nm)).2.1 (fold9 kp la lim po (l.map Plc.nm) ((rows.take k).map Rcd.nm)).2.2 ∧ KT w9 wr ∧ DV wr (w.heap.size + 1 + 1 + 1) 0 0 0 none 0 0 ∧ Below w.heap.size w wr) (fun v _ => m - (intOf v).toNat)
    case atStart => exact ⟨0, rfl, by omega, by simpa [fold9] using HST9.out, KT.refl _, VR9.out, HB9.out⟩
    case round =>
      obtain ⟨k, rfl, hkm, hst, hkt, hvr, hbr⟩ := hrel
      have HST := Lib.hid hst
      have HKT := Lib.hid hkt
      have VR := Lib.hid hvr
      have HBR := Lib.hid hbr
      have hrows := HRK.out wr hkt (HR.out.below hbr)
      have HROWS := Lib.hid hrows
      clear hst hkt hvr hbr hrows
      by_cases hlt : k < m
      · obtain ⟨b, off, rfl, hc⟩ := HROWS.out.at (k := k) (by rw [HM.out]; exact hlt)
        obtain ⟨r, hr⟩ : ∃ r, rows[k]? = some r := ⟨_, List.getElem?_eq_getElem (by rw [HM.out]; exact hlt)⟩
        obtain ⟨⟨e0, e1, e2⟩, hra, hrf⟩ := hc k r hr
        have hmem := rows_mem HRW.out (List.mem_of_getElem? hr)
        have hfo := fold9_ok HOK.out (show 0 ≤ po ∧ po ≤ 63 by have := HP64.out; omega) ((rows.take k).map Rcd.nm) (fun x hx => by
          obtain ⟨y, hy, rfl⟩ := List.mem_map.1 hx
          exact (HRG.out _ (rows_mem HRW.out (List.mem_of_mem_take hy))).1)
        have hrg := HRG.out _ hmem
        have HSTEP : Hid (fold9 kp la lim po (l.map Plc.nm) ((rows.take (k + 1)).map Rcd.nm) = stp kp la lim po (fold9 kp la lim po (l.map Plc.nm) ((rows.take k).map Rcd.nm)) r.nm) := Lib.hid (by
          unfold fold9
          rw [takeH hr, List.map_append, List.foldl_append]
          rfl)
        have HLT := Lib.hid hlt
        have hkl : ((rows.take k).map Rcd.nm).length ≤ 3000 := by rw [List.length_map, List.length_take]; have := HM3.out; omega
        generalize fold9 kp la lim po (l.map Plc.nm) ((rows.take k).map Rcd.nm) = st at *
        obtain ⟨ty, g1, xs, a1, c1⟩ := r
        obtain ⟨n1, hn1⟩ : ∃ n1, xs.length = n1 := ⟨_, rfl⟩
        simp only [hn1] at e0 e1 e2 hrf
        simp only [Rcd.nm] at hrg HSTEP
        have hgg : 0 ≤ g1 ∧ g1 ≤ 4294967295 := by have := hrg.1; unfold vAskd at this; simp at this; omega
        have HT1 := Lib.hid (show st.2.1.length ≤ 100000 ∧ (0 ≤ st.2.2 ∧ st.2.2 ≤ 100000) by refine ⟨by omega, hfo.2.2.1, by have := hfo.2.2.2; omega⟩)
        have HFO := Lib.hid hfo.1
        have HG1 := Lib.hid hgg
        have HRG1 := Lib.hid hrg
        have HN1 := Lib.hid hn1
        have HRF := Lib.hid hrf
        have HRA := Lib.hid hra
        have hkz : (k : Int) < (m : Int) := by omega
        have hm3 := HM3.out
        have V4w : IV wr (w.heap.size + 1) po := HKT.out _ _ _ _ V49.out (by decide) (by decide) (by decide) (by decide)
        have hbn := bel1 wr (.cells #[.int .u8 ty, .int .u32 g1, .slice a1 n1 c1] 102)
        have hst2 := Lib.hid (HST.out.below hbn)
        have V4n := Lib.hid (V4w.below hbn V4w.lt)
        have HRAn := Lib.hid (hra.below hbn)
        have HBn := Lib.hid hbn
        have VRn := Lib.hid (VR.out.below hbn VR.out.lt)
        clear hc hr hra hrf hmem hfo hrg hn1 hgg V4w hbn
        go_wp2_with fail
        generalize wr.alloc (.cells #[.int .u8 ty, .int .u32 g1, .slice a1 n1 c1] 102) = w10 at *
        refine (dTake w.heap.size w.heap.size (w.heap.size + 1) w6.heap.size (w6.heap.size + 1) kp la lim po st.2.2 st.1 st.2.1 ty g1 a1 n1 c1 xs w10 ⟨Nat.le_refl _, by have := HZ6.out; omega, by have := HZ6.out; omega, by have := HZ6.out; omega, by have := HZ6.out; omega, by omega⟩ hst2.out V4n.out HFO.out HPO.out HG1.out HN1.out (by have h1 := HRG1.out.2; have h2 := HN1.out; rw [← h2]; exact h1) HRAn.out HRF.out HT1.out.2 HT1.out.1 (fun N' q h => (hd9_okD HFO.out (by have := HP64.out; omega) HRG1.out.1 h).2)).mono ?_
        rintro e w11 ⟨rfl, hs11, hk11, hd11, hb11⟩
        have HS11 := Lib.hid hs11
        have HK11 := Lib.hid (HKT.out.trans ((KT.of_below HBn.out).trans hk11))
        have HB11 := Lib.hid (HBR.out.trans ((HBn.out.mono HBR.out.size).trans hb11))
        have VR11 : Hid (DV w11 (w.heap.size + 1 + 1 + 1) 0 0 0 none 0 0) := Lib.hid (hd11 _ _ _ (by omega) VRn.out)
        clear hs11 hk11 hd11 hb11
        go_wp2_with fail
        go_roundw
        case rel =>
          refine ⟨k + 1, by go_num, by have := HLT.out; omega, ?_, HK11.out, VR11.out, HB11.out⟩
          rw [HSTEP.out]
          exact HS11.out
        case measure => have := HLT.out; simp [intOf]; omega
      · obtain rfl : k = m := by omega
        have htk : (rows.take k).map Rcd.nm = recsP kd gr rl := by rw [List.take_of_length_le (by rw [HM.out]; exact Nat.le_refl _), HRW.out]
        have hst := HST.out
        rw [htk] at hst
        have hfo := fold9_ok HOK.out (show 0 ≤ po ∧ po ≤ 63 by have := HP64.out; omega) (recsP kd gr rl) (fun x hx => (HRG.out x hx).1)
        have HFD := Lib.hid hfo.1
        obtain ⟨F, hF⟩ : ∃ F, fold9 kp la lim po (l.map Plc.nm) (recsP kd gr rl) = F := ⟨_, rfl⟩
        rw [hF] at hst HFD
        have HFE := Lib.hid hF
        obtain ⟨aP, c', l', aq, cq, rs, g1, g2, g3, g4, g5, g6, g7, g8, g9⟩ := hst
        obtain ⟨n', hn'⟩ : ∃ n', l'.length = n' := ⟨_, rfl⟩
        rw [hn'] at g1 g3
        have hn256 : n' ≤ 256 := by
          have h1 := HFD.out.2.2.1
          have h2 := HFD.out.2.1
          rw [← g2, List.length_map, hn'] at h1
          omega
        have HRI : Hid (Ris9 l') := Lib.hid (ris_nm.1 (by rw [g2]; exact HFD.out.2.2.2.1))
        have V3 := Lib.hid g1
        have HNL := Lib.hid hn'
        have HL2 := Lib.hid g2
        have HOW := Lib.hid g3
        have HPT := Lib.hid g4
        have V9 := Lib.hid g5
        have HQN := Lib.hid g6
        have HQO := Lib.hid g7
        have HQK := Lib.hid g8
        have V10 := Lib.hid g9
        have V4 : Hid (IV wr (w.heap.size + 1) po) := Lib.hid (HKT.out _ _ _ _ V49.out (by decide) (by decide) (by decide) (by decide))
        have V5 : Hid (GV wr (w.heap.size + 1 + 1) kd ve co gr qu ro ev sa sn sc ra rn rc) := Lib.hid (HKT.out _ _ _ _ V59.out (by decide) (by decide) (by decide) (by decide))
        have hPl := own_pls g3 hn' (fun p hp => (g4 p hp).ok)
        have HPL := Lib.hid hPl
        clear hfo hF g1 g2 g3 g4 g5 g6 g7 g8 g9 hn' htk hPl HST V49 V59 VR9 HB9 HST9 HKT
        obtain ⟨c0, c1, c2, c3, -⟩ := V3.out.cells
        obtain ⟨d0, -⟩ := V4.out.cells
        obtain ⟨m0, m1, m2, m3, m4, m5, m6, m7, m8, -⟩ := V5.out.cells
        go_wp2_with fail
        clear c0 c1 c2 c3 d0 m0 m1 m2 m3 m4 m5 m6 m7 m8
        refine (dFind aP n' c' l' po gr wr HNL.out (by omega) HRI.out HPL.out HGR.out).mono ?_
        rintro e wf ⟨⟨k', b', rfl, hfd⟩, hbf⟩
        have HFD2 := Lib.hid (found_at HRI.out hfd)
        have HFK := Lib.hid hfd
        replace V3 := Lib.hid (V3.out.below hbf V3.out.lt)
        replace V5 := Lib.hid (V5.out.below hbf V5.out.lt)
        replace V9 := Lib.hid (V9.out.below hbf V9.out.lt)
        replace V10 := Lib.hid (V10.out.below hbf V10.out.lt)
        replace VR := Lib.hid (VR.out.below hbf VR.out.lt)
        replace HOW := Lib.hid (own_grown HOW.out hbf (Nat.le_refl _))
        replace HPT : Hid (∀ p ∈ l', PT wf p) := Lib.hid (fun p hp => (HPT.out p hp).below hbf)
        replace HQO := Lib.hid (own_grown HQO.out hbf (Nat.le_refl _))
        replace HQK : Hid (∀ r ∈ rs, QOk wf r.2) := Lib.hid (fun r hr => (HQK.out r hr).below hbf)
        replace HBR := Lib.hid (HBR.out.trans (hbf.mono HBR.out.size))
        clear hfd hbf V4 HPL
        rcases HFD2.out with ⟨rfl, p, hp, hat⟩ | ⟨rfl, hat⟩
        · have hkey : p.k = po * 4294967296 + gr := by
            rcases HFK.out.2.2 with ⟨_, ⟨q, hq, e⟩, _⟩ | ⟨h, _⟩
            · rw [hp] at hq; cases hq; exact e
            · cases h
          have hkn : k' < n' := by rw [← HNL.out]; exact (List.getElem?_eq_some_iff.1 hp).1
          obtain ⟨g, rfl, -, hnc, -⟩ := kown_at HOW.out (by omega)
          obtain ⟨po1, v1, v2, g1, ex, left, s1, a1, c1⟩ := p
          obtain ⟨n1, hn1⟩ : ∃ n1, s1.length = n1 := ⟨_, rfl⟩
          have HN1 := Lib.hid hn1
          have HPK := Lib.hid hp
          have hpt := HPT.out _ (List.mem_of_getElem? hp)
          have hkp1 := HOK.out.1
          have AGB1 : Hid (isI (agV1 kd kp v1)) := Lib.hid (by unfold agV1; split; exact (by unfold mayP at hkp1; unfold isI; omega); exact hpt.2.1.2.1)
          have AGB2 : Hid (isI (agV2 kd kp v2)) := Lib.hid (by unfold agV2; split; exact (by unfold mayP at hkp1; unfold isI; omega); exact hpt.2.1.2.2)
          have HFIN : Hid ((l'.set k' ⟨po1, agV1 kd kp v1, agV2 kd kp v2, g1, ex, left, s1, a1, c1⟩).map Plc.nm = agL kd kp (po * 4294967296 + gr) F.1) := Lib.hid (by rw [← HL2.out]; exact agL_set HRI.out hp hkey rfl)
          have hk0 : (0 : Int) ≤ (k' : Int) := by omega
          have hk1 : (k' : Int) < (n' : Int) := by omega
          clear hp hkey hat hn1 HFK HFD2 hpt hkp1
          go_wp2_with fail
          refine wp_region_last (haV w.heap.size g k' n' c' kd kp po1 v1 v2 g1 ex left a1 n1 c1 (l'.set k' ⟨po1, agV1 kd kp v1, agV2 kd kp v2, g1, ex, left, s1, a1, c1⟩) w.heap.size wf) (fun W => Below wf.heap.size wf W) (fun _ A B => Below A.heap.size A B) haD [45, 46, 47, 48, 49, 50, 51, 52, 53, 54, 55, 56, 57, 58, 59] (by kernel_rfl) (by kernel_rfl) (by kernel_rfl) (by kernel_rfl) (by kernel_rfl) (by decide) (Below.refl _ wf).drew
            (fun i j oi oj v us A B hoi hoj hij hni hw hSA hr hv => ha_st _ _ _ _ _ _ _ _ _ _ _ _ _ _ _ _ _ _ _ (fun e => hni (by subst e; rfl)) hv)
            ⟨?_, ?_, ?_, ?_, ?_, ?_, ?_, ?_, ?_, ?_, ?_, ?_, ?_, ?_, ?_, ?_, trivial⟩ ?hend
          case refine_1 =>
            intro a' w9 hS h0 hd
            have e3 : a'.tmps[3]?.getD undef = .pointer (some ⟨w.heap.size, 0, none⟩) := vev (h0 3 (by kernel_rfl))
            refine Does2.value (.pointer (some ⟨w.heap.size, 3, none⟩)) (w' := w9) ?_ ⟨rfl, fun _ => ⟨hS, Below.refl _ _⟩⟩
            clear hS h0 hd
            go_simp
          case refine_2 =>
            intro a' w9 hS h0 hd
            have e45 : a'.tmps[45]?.getD undef = .pointer (some ⟨w.heap.size, 3, none⟩) := vev (hd 0 List.mem_cons_self)
            obtain ⟨y0, y1, y2, y3, -⟩ := (V3.out.below hS V3.out.lt).cells
            refine Does2.value (.slice (some ⟨g, 0, none⟩) n' c') (w' := w9) ?_ ⟨rfl, fun _ => ⟨hS, Below.refl _ _⟩⟩
            clear hS h0 hd
            go_simp
          case refine_3 =>
            intro a' w9 hS h0 hd
            have e14 : a'.tmps[14]?.getD undef = .int .i64 (k' : Int) := vev (h0 14 (by kernel_rfl))
            refine Does2.value (.int .i64 (k' : Int)) (w' := w9) ?_ ⟨rfl, fun _ => ⟨hS, Below.refl _ _⟩⟩
            clear hS h0 hd
            go_simp
          case refine_4 =>
            intro a' w9 hS h0 hd
            have e3 : a'.tmps[3]?.getD undef = .pointer (some ⟨w.heap.size, 0, none⟩) := vev (h0 3 (by kernel_rfl))
            refine Does2.value (.pointer (some ⟨w.heap.size, 3, none⟩)) (w' := w9) ?_ ⟨rfl, fun _ => ⟨hS, Below.refl _ _⟩⟩
            clear hS h0 hd
            go_simp
          case refine_5 =>
            intro a' w9 hS h0 hd
            have e48 : a'.tmps[48]?.getD undef = .pointer (some ⟨w.heap.size, 3, none⟩) := vev (hd 3 List.mem_cons_self)
            obtain ⟨y0, y1, y2, y3, -⟩ := (V3.out.below hS V3.out.lt).cells
            refine Does2.value (.slice (some ⟨g, 0, none⟩) n' c') (w' := w9) ?_ ⟨rfl, fun _ => ⟨hS, Below.refl _ _⟩⟩
            clear hS h0 hd
            go_simp
          case refine_6 =>
            intro a' w9 hS h0 hd
            have e14 : a'.tmps[14]?.getD undef = .int .i64 (k' : Int) := vev (h0 14 (by kernel_rfl))
            refine Does2.value (.int .i64 (k' : Int)) (w' := w9) ?_ ⟨rfl, fun _ => ⟨hS, Below.refl _ _⟩⟩
            clear hS h0 hd
            go_simp
          case refine_7 =>
            intro a' w9 hS h0 hd
            have e49 : a'.tmps[49]?.getD undef = .slice (some ⟨g, 0, none⟩) n' c' := vev (hd 4 List.mem_cons_self)
            have e50 : a'.tmps[50]?.getD undef = .int .i64 (k' : Int) := vev (hd 5 (List.mem_cons_of_mem _ List.mem_cons_self))
            refine Does2.value (.pointer (some ⟨g, k' * 7, none⟩)) (w' := w9) ?_ ⟨rfl, fun _ => ⟨hS, Below.refl _ _⟩⟩
            clear hS h0 hd
            go_simp
          case refine_8 =>
            intro a' w9 hS h0 hd
            have e51 : a'.tmps[51]?.getD undef = .pointer (some ⟨g, k' * 7, none⟩) := vev (hd 6 List.mem_cons_self)
            obtain ⟨⟨y0, y1, y2, y3, y4, y5, y6⟩, -⟩ := own_pcs (own_grown HOW.out hS (Nat.le_refl _)) HPK.out
            unfold Plc.sl at y6
            simp only [HN1.out] at y0 y1 y2 y3 y4 y5 y6
            refine Does2.value (.agg #[.int .i64 po1, .int .i64 v1, .int .i64 v2, .int .u32 g1, .bool ex, .int .i64 left, .slice a1 n1 c1]) (w' := w9) ?_ ⟨rfl, fun _ => ⟨hS, Below.refl _ _⟩⟩
            clear hS h0 hd
            go_simp
          case refine_9 =>
            intro a' w9 hS h0 hd
            have e5 : a'.tmps[5]?.getD undef = .pointer (some ⟨w.heap.size + 1 + 1, 0, none⟩) := vev (h0 5 (by kernel_rfl))
            refine Does2.value (.pointer (some ⟨w.heap.size + 1 + 1, 0, none⟩)) (w' := w9) ?_ ⟨rfl, fun _ => ⟨hS, Below.refl _ _⟩⟩
            clear hS h0 hd
            go_simp
          case refine_10 =>
            intro a' w9 hS h0 hd
            have e53 : a'.tmps[53]?.getD undef = .pointer (some ⟨w.heap.size + 1 + 1, 0, none⟩) := vev (hd 8 List.mem_cons_self)
            obtain ⟨y0, -⟩ := (V5.out.below hS V5.out.lt).cells
            refine Does2.value (.int .u8 kd) (w' := w9) ?_ ⟨rfl, fun _ => ⟨hS, Below.refl _ _⟩⟩
            clear hS h0 hd
            go_simp
          case refine_11 =>
            intro a' w9 hS h0 hd
            have e3 : a'.tmps[3]?.getD undef = .pointer (some ⟨w.heap.size, 0, none⟩) := vev (h0 3 (by kernel_rfl))
            refine Does2.value (.pointer (some ⟨w.heap.size, 0, none⟩)) (w' := w9) ?_ ⟨rfl, fun _ => ⟨hS, Below.refl _ _⟩⟩
            clear hS h0 hd
            go_simp
          case refine_12 =>
            intro a' w9 hS h0 hd
            have e55 : a'.tmps[55]?.getD undef = .pointer (some ⟨w.heap.size, 0, none⟩) := vev (hd 10 List.mem_cons_self)
            refine Does2.value (.pointer (some ⟨w.heap.size, 0, none⟩)) (w' := w9) ?_ ⟨rfl, fun _ => ⟨hS, Below.refl _ _⟩⟩
            clear hS h0 hd
            go_simp
          case refine_13 =>
            intro a' w9 hS h0 hd
            have e56 : a'.tmps[56]?.getD undef = .pointer (some ⟨w.heap.size, 0, none⟩) := vev (hd 11 List.mem_cons_self)
            obtain ⟨y0, y1, y2, y3, -⟩ := (V3.out.below hS V3.out.lt).cells
            refine Does2.value (.int .i64 kp) (w' := w9) ?_ ⟨rfl, fun _ => ⟨hS, Below.refl _ _⟩⟩
            clear hS h0 hd
            go_simp
          case refine_14 =>
            intro a' w9 hS h0 hd
            have e52 : a'.tmps[52]?.getD undef = .agg #[.int .i64 po1, .int .i64 v1, .int .i64 v2, .int .u32 g1, .bool ex, .int .i64 left, .slice a1 n1 c1] := vev (hd 7 List.mem_cons_self)
            have e54 : a'.tmps[54]?.getD undef = .int .u8 kd := vev (hd 9 (List.mem_cons_of_mem _ List.mem_cons_self))
            have e57 : a'.tmps[57]?.getD undef = .int .i64 kp := vev (hd 12 (List.mem_cons_of_mem _ (List.mem_cons_of_mem _ List.mem_cons_self)))
            refine Does2.call 57 #[.agg #[.int .i64 po1, .int .i64 v1, .int .i64 v2, .int .u32 g1, .bool ex, .int .i64 left, .slice a1 n1 c1], .int .u8 kd, .int .i64 kp] (w' := w9) ?_ ((dAged po1 v1 v2 g1 ex left a1 n1 c1 kd kp w9).mono ?_)
            · clear hS h0 hd
              go_simp
            · rintro e w8 ⟨rfl, hb⟩
              exact ⟨_, rfl, rfl, fun _ => ⟨hS.trans (hb.mono hS.size), hb⟩⟩
          case refine_15 =>
            intro a' w9 hS h0 hd
            have e46 : a'.tmps[46]?.getD undef = .slice (some ⟨g, 0, none⟩) n' c' := vev (hd 1 List.mem_cons_self)
            have e47 : a'.tmps[47]?.getD undef = .int .i64 (k' : Int) := vev (hd 2 (List.mem_cons_of_mem _ List.mem_cons_self))
            refine Does2.value (.pointer (some ⟨g, k' * 7, none⟩)) (w' := w9) ?_ ⟨rfl, fun _ => ⟨hS, Below.refl _ _⟩⟩
            clear hS h0 hd
            go_simp
          case refine_16 =>
            intro a' w9 hS h0 hd
            have e59 : a'.tmps[59]?.getD undef = .pointer (some ⟨g, k' * 7, none⟩) := vev (hd 14 List.mem_cons_self)
            have e58 : a'.tmps[58]?.getD undef = .agg #[.int .i64 po1, .int .i64 (agV1 kd kp v1), .int .i64 (agV2 kd kp v2), .int .u32 g1, .bool ex, .int .i64 left, .slice a1 n1 c1] := vev (hd 13 (List.mem_cons_of_mem _ List.mem_cons_self))
            have ho := own_grown HOW.out hS (Nat.le_refl _)
            obtain ⟨⟨y0, y1, y2, y3, y4, y5, y6⟩, z0, z1, z2, z3, z4, z5, z6⟩ := own_pcs ho HPK.out
            obtain ⟨ho7, hb7⟩ := own_store ho HNL.out HPK.out po1 (agV1 kd kp v1) (agV2 kd kp v2) g1 ex left s1 a1 n1 c1 HN1.out
            refine Does2.skip (w' := (((((((w9.setCell ⟨g, k' * 7, none⟩ (.int .i64 po1)).setCell ⟨g, k' * 7 + 1, none⟩ (.int .i64 (agV1 kd kp v1))).setCell ⟨g, k' * 7 + 2, none⟩ (.int .i64 (agV2 kd kp v2))).setCell ⟨g, k' * 7 + 3, none⟩ (.int .u32 g1)).setCell ⟨g, k' * 7 + 4, none⟩ (.bool ex)).setCell ⟨g, k' * 7 + 5, none⟩ (.int .i64 left)).setCell ⟨g, k' * 7 + 6, none⟩ (.slice a1 n1 c1))) ?_ ⟨⟨ho7, w9, hS, hb7⟩, fun h => absurd rfl h⟩
            clear hS h0 hd ho7 hb7 ho
            go_simp
          case hend =>
            intro f w9 hv
            obtain ⟨ho7, W, hbW, hbt⟩ := hv
            simp only [putAll, Act.put, List.setIfInBounds_toArray, List.set_cons_zero, List.set_cons_succ]
            obtain ⟨-, -, csg, hgg⟩ := own_blk (own_grown HOW.out hbW (Nat.le_refl _))
            replace V3 := Lib.hid ((V3.out.below hbW V3.out.lt).but hbt (ty_ne (V3.out.below hbW V3.out.lt) hgg (by decide)))
            replace V9 := Lib.hid ((V9.out.below hbW V9.out.lt).but hbt (ty_ne (V9.out.below hbW V9.out.lt) hgg (by decide)))
            replace V10 := Lib.hid ((V10.out.below hbW V10.out.lt).but hbt (ty_ne (V10.out.below hbW V10.out.lt) hgg (by decide)))
            replace VR := Lib.hid ((VR.out.below hbW VR.out.lt).but hbt (ty_ne (VR.out.below hbW VR.out.lt) hgg (by decide)))
            replace HOW := Lib.hid ho7
            replace HPT : Hid (∀ p ∈ l'.set k' ⟨po1, agV1 kd kp v1, agV2 kd kp v2, g1, ex, left, s1, a1, c1⟩, PT w9 p) := Lib.hid (by
              intro y hy
              rcases List.mem_or_eq_of_mem_set hy with h1 | rfl
              · exact ((HPT.out y h1).below hbW).ty hgg (by decide) hbt
              · have h2 := ((HPT.out _ (List.mem_of_getElem? HPK.out)).below hbW).ty hgg (by decide) hbt
                exact ⟨h2.1, ⟨⟨h2.2.1.1, AGB1.out, AGB2.out⟩, h2.2.2⟩⟩)
            replace HQO := Lib.hid (vown_ty (own_grown HQO.out hbW (Nat.le_refl _)) hgg (by decide) hbt)
            replace HQK : Hid (∀ r ∈ rs, QOk w9 r.2) := Lib.hid (fun r hr => ((HQK.out r hr).below hbW).ty hgg (by decide) hbt)
            replace HBR := Lib.hid (HBR.out.trans ((hbW.mono HBR.out.size).trans (hbt.below (own_blk ho7).1 (Nat.le_trans HBR.out.size hbW.size))))
            clear ho7 hbW hbt hgg
            obtain ⟨c0, c1, c2, c3, -⟩ := V3.out.cells
            go_wp2_with fail
            clear c0 c1 c2 c3
            have VRd : Hid (DV (w9.drewN 1) (w.heap.size + 1 + 1 + 1) 0 0 0 none 0 0) := Lib.hid VR.out
            have V3d : Hid (DV (w9.drewN 1) w.heap.size kp la lim (some ⟨g, 0, none⟩) n' c') := Lib.hid V3.out
            have V9d : Hid (AV (w9.drewN 1) w6.heap.size aq rs.length cq) := Lib.hid V9.out
            have V10d : Hid (CV (w9.drewN 1) (w6.heap.size + 1) F.2.2) := Lib.hid V10.out
            have N3 : Hid (w.heap.size ≠ w.heap.size + 1 + 1 + 1) := Lib.hid (by omega)
            have N9 : Hid (w6.heap.size ≠ w.heap.size + 1 + 1 + 1) := Lib.hid (by have := HZ6.out; omega)
            have N10 : Hid (w6.heap.size + 1 ≠ w.heap.size + 1 + 1 + 1) := Lib.hid (by have := HZ6.out; omega)
            refine wp_region_each3 (hz9V w.heap.size w6.heap.size (w6.heap.size + 1) (w.heap.size + 1 + 1 + 1) kp la lim (some ⟨g, 0, none⟩) n' c' aq rs.length cq F.2.2) (fun W => But1 (w.heap.size + 1 + 1 + 1) (w9.drewN 1) W ∧ ∃ k1 k2 k3 k4 k5 k6, DV W (w.heap.size + 1 + 1 + 1) k1 k2 k3 k4 k5 k6) (fun i A B => i ≠ 3 → B = A) hz9D [60, 61, 62, 7, 8] (by kernel_rfl) (by kernel_rfl) (by kernel_rfl) ⟨But1.refl _ _, _, _, _, _, _, _, VRd.out⟩
              (fun i j oi oj v us A B hoi hoj hij hw hSA hr hv => hz9_st _ _ _ _ _ _ _ _ _ _ _ _ _ _ hij hr hv) ?hgd
              ⟨?_, ?_, ?_, ?_, ?_, ?_, trivial⟩ ?hend
            case hgd =>
              intro i o g b hoi hog v us w hv
              have hi : i < 6 := (Array.getElem?_eq_some_iff.1 hoi).1
              have hc : i = 0 ∨ i = 1 ∨ i = 2 ∨ i = 3 ∨ i = 4 ∨ i = 5 := by omega
              rcases hc with rfl | rfl | rfl | rfl | rfl | rfl
              · cases hoi; cases hog
              · cases hoi; cases hog
              · cases hoi; cases hog
              · cases hoi; cases hog
              · cases hoi; cases hog
              · cases hoi; cases hog
            case refine_1 =>
              intro a' w9 hS h0 hd
              have e3 : a'.tmps[3]?.getD undef = .pointer (some ⟨w.heap.size, 0, none⟩) := vev (h0 3 (by kernel_rfl))
              obtain ⟨y0, y1, y2, y3, -⟩ := (V3d.out.but hS.1 N3.out).cells
              refine Does2.value (.agg #[.int .i64 kp, .int .i64 la, .int .i64 lim, .slice (some ⟨g, 0, none⟩) n' c']) (w' := w9) ?_ ⟨rfl, hS, fun _ => rfl⟩
              clear hS h0 hd
              go_simp
            case refine_2 =>
              intro a' w9 hS h0 hd
              have e9 : a'.tmps[9]?.getD undef = .pointer (some ⟨w6.heap.size, 0, none⟩) := vev (h0 9 (by kernel_rfl))
              obtain ⟨y0, -⟩ := (V9d.out.but hS.1 N9.out).cells
              refine Does2.value (.slice aq rs.length cq) (w' := w9) ?_ ⟨rfl, hS, fun _ => rfl⟩
              clear hS h0 hd
              go_simp
            case refine_3 =>
              intro a' w9 hS h0 hd
              have e10 : a'.tmps[10]?.getD undef = .pointer (some ⟨w6.heap.size + 1, 0, none⟩) := vev (h0 10 (by kernel_rfl))
              obtain ⟨y0, -⟩ := (V10d.out.but hS.1 N10.out).cells
              refine Does2.call 58 #[.pointer (some ⟨w6.heap.size + 1, 0, none⟩)] (w' := w9) ?_ ((aLoad (w6.heap.size + 1) F.2.2 w9 y0).mono ?_)
              · clear hS h0 hd y0
                go_simp
              · rintro e w8 ⟨rfl, rfl⟩
                exact ⟨_, rfl, rfl, hS, fun _ => rfl⟩
            case refine_4 =>
              intro a' w9 hS h0 hd
              have e6 : a'.tmps[6]?.getD undef = .pointer (some ⟨w.heap.size + 1 + 1 + 1, 0, none⟩) := vev (h0 6 (by kernel_rfl))
              have e60 : a'.tmps[60]?.getD undef = .agg #[.int .i64 kp, .int .i64 la, .int .i64 lim, .slice (some ⟨g, 0, none⟩) n' c'] := vev (hd 0 List.mem_cons_self)
              obtain ⟨hS1, k1, k2, k3, k4, k5, k6, hdv⟩ := hS
              have hst := hdv.store kp la lim (some ⟨g, 0, none⟩) n' c'
              have hsb := hdv.store_but kp la lim (some ⟨g, 0, none⟩) n' c'
              obtain ⟨y0, y1, y2, y3, j0, j1, j2, j3⟩ := hdv.cells
              refine Does2.skip (w' := ((((w9.setCell ⟨w.heap.size + 1 + 1 + 1, 0, none⟩ (.int .i64 kp)).setCell ⟨w.heap.size + 1 + 1 + 1, 1, none⟩ (.int .i64 la)).setCell ⟨w.heap.size + 1 + 1 + 1, 2, none⟩ (.int .i64 lim)).setCell ⟨w.heap.size + 1 + 1 + 1, 3, none⟩ (.slice (some ⟨g, 0, none⟩) n' c'))) ?_ ⟨hst, ⟨hS1.trans hsb, _, _, _, _, _, _, hst⟩, fun h => absurd rfl h⟩
              clear h0 hd hst hsb hdv hS1
              go_simp
            case refine_5 =>
              intro a' w9 hS h0 hd
              have e61 : a'.tmps[61]?.getD undef = .slice aq rs.length cq := vev (hd 1 List.mem_cons_self)
              refine Does2.value (.slice aq rs.length cq) (w' := w9) ?_ ⟨rfl, hS, fun _ => rfl⟩
              clear hS h0 hd
              go_simp
            case refine_6 =>
              intro a' w9 hS h0 hd
              have e62 : a'.tmps[62]?.getD undef = .int .i64 F.2.2 := vev (hd 2 List.mem_cons_self)
              refine Does2.value (.int .i64 F.2.2) (w' := w9) ?_ ⟨rfl, hS, fun _ => rfl⟩
              clear hS h0 hd
              go_simp
            case hend =>
              intro fl wl hS hv
              have v7 := hv 4 (by decide)
              replace v7 : fl 7 = .slice aq rs.length cq := v7
              have v8 := hv 5 (by decide)
              replace v8 : fl 8 = .int .i64 F.2.2 := v8
              simp only [putAll, Act.put, List.setIfInBounds_toArray, List.set_cons_zero, List.set_cons_succ, v7, v8]
              have hdv : DV wl (w.heap.size + 1 + 1 + 1) kp la lim (some ⟨g, 0, none⟩) n' c' := hv 3 (by decide)
              have B4 := hS.1
              have hxd : (w9.drewN 1).heap[w.heap.size + 1 + 1 + 1]? = some (.cells _ 46 (0, 0)) := VRd.out
              have HBd : Below w.heap.size w (w9.drewN 1) := bdrawn HBR.out 1
              have HOd : World.ownsRow (w9.drewN 1) w.heap.size 77 7 (.slice (some ⟨g, 0, none⟩) n' c') n' (pv (l'.set k' ⟨po1, agV1 kd kp v1, agV2 kd kp v2, g1, ex, left, s1, a1, c1⟩)) := HOW.out
              have HQd : World.ownsRow (w9.drewN 1) w.heap.size 75 3 (.slice aq (List.length rs) cq) (List.length rs) (aqv rs) := HQO.out
              have hof := vown_ty HOd hxd (by decide) B4
              have hqf := vown_ty HQd hxd (by decide) B4
              have hpf : ∀ p ∈ (l'.set k' ⟨po1, agV1 kd kp v1, agV2 kd kp v2, g1, ex, left, s1, a1, c1⟩), PT wl p := fun p hp => ((HPT.out p hp).below (bdrawn (Below.refl _ w9) 1)).ty hxd (by decide) B4
              have hkf : ∀ r ∈ rs, QOk wl r.2 := fun r hr => ((HQK.out r hr).below (bdrawn (Below.refl _ w9) 1)).ty hxd (by decide) B4
              have hbf := HBd.trans (B4.below (by omega) HBd.size)
              have HDV := Lib.hid hdv
              clear hdv v7 v8
              go_wp2_with fail
              refine ret_v3 (p := 6) rfl rfl rfl HDV.out.load ?_
              have hfin := HFIN.out
              first | rw [if_pos HP64.out] | skip
              rw [HFE.out]
              have HNLL := HNL.out
              subst HNLL
              exact ⟨⟨(some ⟨g, 0, none⟩), c', l'.set k' ⟨po1, agV1 kd kp v1, agV2 kd kp v2, g1, ex, left, s1, a1, c1⟩, aq, cq, rs, by first | rfl | (simp only [List.length_set]; rfl), hfin, by simpa only [List.length_set] using hof, hpf, HQN.out, hqf, hkf⟩, hbf⟩
        · have HFIN : Hid (l'.map Plc.nm = agL kd kp (po * 4294967296 + gr) F.1) := Lib.hid (by
            rw [HL2.out, agL_no]
            intro p hp
            rcases HFK.out.2.2 with ⟨h, _⟩ | ⟨_, h, _⟩
            · cases h
            · rw [← HL2.out] at hp
              obtain ⟨q, hq, rfl⟩ := List.mem_map.1 hp
              exact h q hq)
          clear hat HFK HFD2
          obtain ⟨c0, c1, c2, c3, -⟩ := V3.out.cells
          go_wp2_with fail
          clear c0 c1 c2 c3
          have VRd : Hid (DV (wf.drewN 1) (w.heap.size + 1 + 1 + 1) 0 0 0 none 0 0) := Lib.hid VR.out
          have V3d : Hid (DV (wf.drewN 1) w.heap.size kp la lim aP n' c') := Lib.hid V3.out
          have V9d : Hid (AV (wf.drewN 1) w6.heap.size aq rs.length cq) := Lib.hid V9.out
          have V10d : Hid (CV (wf.drewN 1) (w6.heap.size + 1) F.2.2) := Lib.hid V10.out
          have N3 : Hid (w.heap.size ≠ w.heap.size + 1 + 1 + 1) := Lib.hid (by omega)
          have N9 : Hid (w6.heap.size ≠ w.heap.size + 1 + 1 + 1) := Lib.hid (by have := HZ6.out; omega)
          have N10 : Hid (w6.heap.size + 1 ≠ w.heap.size + 1 + 1 + 1) := Lib.hid (by have := HZ6.out; omega)
          refine wp_region_each3 (hz9V w.heap.size w6.heap.size (w6.heap.size + 1) (w.heap.size + 1 + 1 + 1) kp la lim aP n' c' aq rs.length cq F.2.2) (fun W => But1 (w.heap.size + 1 + 1 + 1) (wf.drewN 1) W ∧ ∃ k1 k2 k3 k4 k5 k6, DV W (w.heap.size + 1 + 1 + 1) k1 k2 k3 k4 k5 k6) (fun i A B => i ≠ 3 → B = A) hz9D [60, 61, 62, 7, 8] (by kernel_rfl) (by kernel_rfl) (by kernel_rfl) ⟨But1.refl _ _, _, _, _, _, _, _, VRd.out⟩
            (fun i j oi oj v us A B hoi hoj hij hw hSA hr hv => hz9_st _ _ _ _ _ _ _ _ _ _ _ _ _ _ hij hr hv) ?hgd
            ⟨?_, ?_, ?_, ?_, ?_, ?_, trivial⟩ ?hend
          case hgd =>
            intro i o g b hoi hog v us w hv
            have hi : i < 6 := (Array.getElem?_eq_some_iff.1 hoi).1
            have hc : i = 0 ∨ i = 1 ∨ i = 2 ∨ i = 3 ∨ i = 4 ∨ i = 5 := by omega
            rcases hc with rfl | rfl | rfl | rfl | rfl | rfl
            · cases hoi; cases hog
            · cases hoi; cases hog
            · cases hoi; cases hog
            · cases hoi; cases hog
            · cases hoi; cases hog
            · cases hoi; cases hog
          case refine_1 =>
            intro a' w9 hS h0 hd
            have e3 : a'.tmps[3]?.getD undef = .pointer (some ⟨w.heap.size, 0, none⟩) := vev (h0 3 (by kernel_rfl))
            obtain ⟨y0, y1, y2, y3, -⟩ := (V3d.out.but hS.1 N3.out).cells
            refine Does2.value (.agg #[.int .i64 kp, .int .i64 la, .int .i64 lim, .slice aP n' c']) (w' := w9) ?_ ⟨rfl, hS, fun _ => rfl⟩
            clear hS h0 hd
            go_simp
          case refine_2 =>
            intro a' w9 hS h0 hd
            have e9 : a'.tmps[9]?.getD undef = .pointer (some ⟨w6.heap.size, 0, none⟩) := vev (h0 9 (by kernel_rfl))
            obtain ⟨y0, -⟩ := (V9d.out.but hS.1 N9.out).cells
            refine Does2.value (.slice aq rs.length cq) (w' := w9) ?_ ⟨rfl, hS, fun _ => rfl⟩
            clear hS h0 hd
            go_simp
          case refine_3 =>
            intro a' w9 hS h0 hd
            have e10 : a'.tmps[10]?.getD undef = .pointer (some ⟨w6.heap.size + 1, 0, none⟩) := vev (h0 10 (by kernel_rfl))
            obtain ⟨y0, -⟩ := (V10d.out.but hS.1 N10.out).cells
            refine Does2.call 58 #[.pointer (some ⟨w6.heap.size + 1, 0, none⟩)] (w' := w9) ?_ ((aLoad (w6.heap.size + 1) F.2.2 w9 y0).mono ?_)
            · clear hS h0 hd y0
              go_simp
            · rintro e w8 ⟨rfl, rfl⟩
              exact ⟨_, rfl, rfl, hS, fun _ => rfl⟩
          case refine_4 =>
            intro a' w9 hS h0 hd
            have e6 : a'.tmps[6]?.getD undef = .pointer (some ⟨w.heap.size + 1 + 1 + 1, 0, none⟩) := vev (h0 6 (by kernel_rfl))
            have e60 : a'.tmps[60]?.getD undef = .agg #[.int .i64 kp, .int .i64 la, .int .i64 lim, .slice aP n' c'] := vev (hd 0 List.mem_cons_self)
            obtain ⟨hS1, k1, k2, k3, k4, k5, k6, hdv⟩ := hS
            have hst := hdv.store kp la lim aP n' c'
            have hsb := hdv.store_but kp la lim aP n' c'
            obtain ⟨y0, y1, y2, y3, j0, j1, j2, j3⟩ := hdv.cells
            refine Does2.skip (w' := ((((w9.setCell ⟨w.heap.size + 1 + 1 + 1, 0, none⟩ (.int .i64 kp)).setCell ⟨w.heap.size + 1 + 1 + 1, 1, none⟩ (.int .i64 la)).setCell ⟨w.heap.size + 1 + 1 + 1, 2, none⟩ (.int .i64 lim)).setCell ⟨w.heap.size + 1 + 1 + 1, 3, none⟩ (.slice aP n' c'))) ?_ ⟨hst, ⟨hS1.trans hsb, _, _, _, _, _, _, hst⟩, fun h => absurd rfl h⟩
            clear h0 hd hst hsb hdv hS1
            go_simp
          case refine_5 =>
            intro a' w9 hS h0 hd
            have e61 : a'.tmps[61]?.getD undef = .slice aq rs.length cq := vev (hd 1 List.mem_cons_self)
            refine Does2.value (.slice aq rs.length cq) (w' := w9) ?_ ⟨rfl, hS, fun _ => rfl⟩
            clear hS h0 hd
            go_simp
          case refine_6 =>
            intro a' w9 hS h0 hd
            have e62 : a'.tmps[62]?.getD undef = .int .i64 F.2.2 := vev (hd 2 List.mem_cons_self)
            refine Does2.value (.int .i64 F.2.2) (w' := w9) ?_ ⟨rfl, hS, fun _ => rfl⟩
            clear hS h0 hd
            go_simp
          case hend =>
            intro fl wl hS hv
            have v7 := hv 4 (by decide)
            replace v7 : fl 7 = .slice aq rs.length cq := v7
            have v8 := hv 5 (by decide)
            replace v8 : fl 8 = .int .i64 F.2.2 := v8
            simp only [putAll, Act.put, List.setIfInBounds_toArray, List.set_cons_zero, List.set_cons_succ, v7, v8]
            have hdv : DV wl (w.heap.size + 1 + 1 + 1) kp la lim aP n' c' := hv 3 (by decide)
            have B4 := hS.1
            have hxd : (wf.drewN 1).heap[w.heap.size + 1 + 1 + 1]? = some (.cells _ 46 (0, 0)) := VRd.out
            have HBd : Below w.heap.size w (wf.drewN 1) := bdrawn HBR.out 1
            have HOd : World.ownsRow (wf.drewN 1) w.heap.size 77 7 (.slice aP n' c') n' (pv (l')) := HOW.out
            have HQd : World.ownsRow (wf.drewN 1) w.heap.size 75 3 (.slice aq (List.length rs) cq) (List.length rs) (aqv rs) := HQO.out
            have hof := vown_ty HOd hxd (by decide) B4
            have hqf := vown_ty HQd hxd (by decide) B4
            have hpf : ∀ p ∈ (l'), PT wl p := fun p hp => ((HPT.out p hp).below (bdrawn (Below.refl _ wf) 1)).ty hxd (by decide) B4
            have hkf : ∀ r ∈ rs, QOk wl r.2 := fun r hr => ((HQK.out r hr).below (bdrawn (Below.refl _ wf) 1)).ty hxd (by decide) B4
            have hbf := HBd.trans (B4.below (by omega) HBd.size)
            have HDV := Lib.hid hdv
            clear hdv v7 v8
            go_wp2_with fail
            refine ret_v3 (p := 6) rfl rfl rfl HDV.out.load ?_
            have hfin := HFIN.out
            first | rw [if_pos HP64.out] | skip
            rw [HFE.out]
            have HNLL := HNL.out
            subst HNLL
            exact ⟨⟨aP, c', l', aq, cq, rs, by first | rfl | (simp only [List.length_set]; rfl), hfin, by simpa only [List.length_set] using hof, hpf, HQN.out, hqf, hkf⟩, hbf⟩
  · rw [decide_eq_false hp64]
    have HNP := Lib.hid hp64
    clear hp64
    obtain ⟨c0, c1, c2, c3, f0, f1, f2, f3⟩ := V36.out.cells
    obtain ⟨d0, d1, d2, d3, g0, g1, g2, g3⟩ := VR6.out.cells
    go_wp2_with fail
    refine ret_v3 (p := 6) rfl rfl rfl (VR6.out.store kp la lim a5 n5 c5).load ?_
    have B4 := VR6.out.store_but kp la lim a5 n5 c5
    have hx4 : w6.heap[w.heap.size + 1 + 1 + 1]? = some (.cells _ 46 (0, 0)) := VR6.out
    obtain rfl : l5.length = n5 := HN5.out
    exact ⟨⟨a5, c5, l5, none, 0, [], rfl, HNM5.out, vown_ty HO6.out hx4 (by decide) B4, fun p hp => (HP6.out p hp).ty hx4 (by decide) B4, rfl, World.ownsRow_nil _ _ _ _, fun r hr => by cases hr⟩, HB6.out.trans (B4.below (by omega) HB6.out.size)⟩
end Go.Proofs.YtiabbkjmgaemaaaGreat
