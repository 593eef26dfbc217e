/- What tells which sources stay: the closures; sets that are kept. -/
import Derived.Test.YtllpmepmgnnoaaaGreatVd
namespace Go.Proofs.YtllpmepmgnnoaaaGreat
set_option linter.unusedVariables false
open Go.RowKit

theorem cKeep (B : Nat) (la : Option Addr) (ln lc : Nat) (xs : List Int) (x : Hd) (w : World) (hx : xs.length = ln) (hm : ln ≤ 1000000) (hB : w.cell? ⟨B, 0, none⟩ = some (.slice la ln lc)) (h : As w la xs) :
    Calls Tryz.prog 68 #[.agg #[.int .u32 x.1, .int .i64 x.2], .pointer (some ⟨B, 0, none⟩)] w fun e w' => e = .returned (.bool (!decide (x.1 ∈ xs))) ∧ Below w.heap.size w w' := by
  obtain ⟨x1, x2⟩ := x
  have HX := Lib.hid hx
  have hb := bel1 w (.cells #[.int .u32 x1, .int .i64 x2] 50)
  have c0 := (hb.cell (cell_lt hB)).trans hB
  have H := Lib.hid (h.below hb)
  have HB := Lib.hid hb
  clear hx h hB hb
  go_enter Tryz.func68, Tryz.ntmps68
  go_wp2_with fail
  refine (sHas la ln lc xs x1 _ HX.out (by omega) H.out).mono ?_
  rintro e w1 ⟨rfl, rfl⟩
  go_wp2_with fail
  go_ret
  exact ⟨rfl, HB.out⟩
theorem cEx (B : Nat) (la : Option Addr) (ln lc : Nat) (xs : List Int) (x : Hd) (w : World) (hx : xs.length = ln) (hm : ln ≤ 1000000) (hB : w.cell? ⟨B, 0, none⟩ = some (.slice la ln lc)) (h : As w la xs) :
    Calls Tryz.prog 73 #[.agg #[.int .u32 x.1, .int .i64 x.2], .pointer (some ⟨B, 0, none⟩)] w fun e w' => e = .returned (.bool (decide (x.1 ∈ xs))) ∧ Below w.heap.size w w' := by
  obtain ⟨x1, x2⟩ := x
  have HX := Lib.hid hx
  have hb := bel1 w (.cells #[.int .u32 x1, .int .i64 x2] 50)
  have c0 := (hb.cell (cell_lt hB)).trans hB
  have H := Lib.hid (h.below hb)
  have HB := Lib.hid hb
  clear hx h hB hb
  go_enter Tryz.func73, Tryz.ntmps73
  go_wp2_with fail
  refine (sHas la ln lc xs x1 _ HX.out (by omega) H.out).mono ?_
  rintro e w1 ⟨rfl, rfl⟩
  go_wp2_with fail
  go_ret
  exact ⟨rfl, HB.out⟩
theorem cAsk (B : Nat) (la : Int) (x : Hd) (w : World) (hB : w.cell? ⟨B, 5, none⟩ = some (.int .i64 la)) :
    Calls Tryz.prog 74 #[.agg #[.int .u32 x.1, .int .i64 x.2], .pointer (some ⟨B, 0, none⟩)] w fun e w' => e = .returned (.bool (decide (la < x.2))) ∧ Below w.heap.size w w' := by
  obtain ⟨x1, x2⟩ := x
  have hb := bel1 w (.cells #[.int .u32 x1, .int .i64 x2] 50)
  have c0 := (hb.cell (cell_lt hB)).trans hB
  have HB := Lib.hid hb
  clear hB hb
  go_enter Tryz.func74, Tryz.ntmps74
  go_wp2_with fail
  go_ret
  exact ⟨rfl, HB.out⟩
theorem cWant (x : Hd) (w : World) :
    Calls Tryz.prog 77 #[.agg #[.int .u32 x.1, .int .i64 x.2]] w fun e w' => e = .returned (.bool (decide (0 < x.2))) ∧ Below w.heap.size w w' := by
  obtain ⟨x1, x2⟩ := x
  go_enter Tryz.func77, Tryz.ntmps77
  go_wp2_with fail
  go_ret
  exact ⟨rfl, bel1 w _⟩
theorem cTick (B N : Nat) (ex : Bool) (n : Int) (x : Hd) (w : World) (hB : w.cell? ⟨B, 1, none⟩ = some (.bool ex)) (hN : w.cell? ⟨N, 0, none⟩ = some (.int .i64 n)) :
    Calls Tryz.prog 41 #[.agg #[.int .u32 x.1, .int .i64 x.2], .pointer (some ⟨B, 0, none⟩), .pointer (some ⟨N, 0, none⟩)] w fun e w' => e = .returned (.bool (ex || decide (n < x.2))) ∧ Below w.heap.size w w' := by
  obtain ⟨x1, x2⟩ := x
  have hb := bel1 w (.cells #[.int .u32 x1, .int .i64 x2] 50)
  have c0 := (hb.cell (cell_lt hB)).trans hB
  have c1 := (hb.cell (cell_lt hN)).trans hN
  have HB := Lib.hid hb
  clear hB hN hb
  cases ex
  all_goals
    go_enter Tryz.func41, Tryz.ntmps41
    go_wp2_with fail
    go_ret
    exact ⟨rfl, HB.out⟩
theorem cWants (N : Nat) (a : Int) (x : Hd) (w : World) (hN : w.cell? ⟨N, 0, none⟩ = some (.int .u32 a)) :
    Calls Tryz.prog 37 #[.agg #[.int .u32 x.1, .int .i64 x.2], .pointer (some ⟨N, 0, none⟩)] w fun e w' => e = .returned (.bool (x.1 == a)) ∧ Below w.heap.size w w' := by
  obtain ⟨x1, x2⟩ := x
  have hb := bel1 w (.cells #[.int .u32 x1, .int .i64 x2] 50)
  have c0 := (hb.cell (cell_lt hN)).trans hN
  have HB := Lib.hid hb
  clear hN hb
  go_enter Tryz.func37, Tryz.ntmps37
  go_wp2_with fail
  go_ret
  exact ⟨rfl, HB.out⟩
/-- A record that is heard: its seven cells. -/
def hcl (g : Int) (ex : Bool) (left : Int) (a : Option Addr) (n c : Nat) (k la : Int) (q : Value) : Array Value := #[.int .u32 g, .bool ex, .int .i64 left, .slice a n c, .int .i64 k, .int .i64 la, q]
def mcl (g : Int) (ex : Bool) (left : Int) (a : Option Addr) (n c : Nat) : Array Value := #[.int .u32 g, .bool ex, .int .i64 left, .slice a n c]
theorem hear_new (w : World) (v0 v1 v2 v3 v4 v5 v6 : Value) : ∀ W, Below (w.heap.size + 1) (w.alloc (.cells #[v0, v1, v2, v3, v4, v5, v6] 58)) W → W.cell? ⟨w.heap.size, 0, none⟩ = some v0 ∧ W.cell? ⟨w.heap.size, 1, none⟩ = some v1 ∧ W.cell? ⟨w.heap.size, 2, none⟩ = some v2 ∧ W.cell? ⟨w.heap.size, 3, none⟩ = some v3 ∧ W.cell? ⟨w.heap.size, 4, none⟩ = some v4 ∧ W.cell? ⟨w.heap.size, 5, none⟩ = some v5 ∧ W.cell? ⟨w.heap.size, 6, none⟩ = some v6 := by
  intro W hb
  have hN := (hb.block w.heap.size (by omega)).trans (Go.Deep.blk_alloc_new w (.cells #[v0, v1, v2, v3, v4, v5, v6] 58))
  exact ⟨by simp only [World.cell?, hN]; rfl, by simp only [World.cell?, hN]; rfl, by simp only [World.cell?, hN]; rfl, by simp only [World.cell?, hN]; rfl, by simp only [World.cell?, hN]; rfl, by simp only [World.cell?, hN]; rfl, by simp only [World.cell?, hN]; rfl⟩
set_option maxRecDepth 100000 in
set_option maxHeartbeats 4000000 in
/-- The sources that are wanted by themselves. -/
theorem mWanted (g : Int) (ex : Bool) (left : Int) (a : Option Addr) (n c : Nat) (k la : Int) (q : Value) (s : List Hd) (w : World) (hx : s.length = n) (hn : n ≤ 100000) (hH : Hs w a s) :
    Calls Tryz.prog 64 #[.agg (hcl g ex left a n c k la q)] w fun e w' => OutV w e w' (ad (s.filter fun x => decide (0 < x.2))) := by
  have HX := Lib.hid hx
  have HH := Lib.hid hH
  clear hx hH
  unfold hcl
  go_enter Tryz.func64, Tryz.ntmps64
  go_wp2_with fail
  have hb := bel1 w (.cells #[.int .u32 g, .bool ex, .int .i64 left, .slice a n c, .int .i64 k, .int .i64 la, q] 58)
  have HB := Lib.hid hb
  refine (mThoseW (fun x => decide (0 < x.2)) a n c s _ HX.out hn (HH.out.below hb) (fun w1 x _ _ => cWant x w1)).mono ?_
  rintro e w1 ⟨⟨a1, c1, rfl, ho1⟩, hb1⟩
  have HS := Lib.hid (own_hs ho1 rfl (ins_filter _ HH.out.2))
  have HB1 := Lib.hid (hb.trans (hb1.mono hb.size))
  have hl : (s.filter fun x => decide (0 < x.2)).length ≤ 100000 := Nat.le_trans (List.length_filter_le _ _) (by rw [HX.out]; exact hn)
  clear hb hb1 ho1
  go_wp2_with fail
  refine (mAddrs a1 _ c1 _ _ rfl hl HS.out).mono ?_
  rintro e w2 ⟨⟨a2, c2, rfl, hA2, hf2, hr2⟩, hb2⟩
  have HA2 := Lib.hid hA2
  have HF2 := Lib.hid hf2
  have HR2 := Lib.hid (vown_le hr2 HB1.out.size)
  have HB2 := Lib.hid (HB1.out.trans (hb2.mono HB1.out.size))
  clear hA2 hf2 hb2 hr2
  go_wp2_with fail
  go_ret
  exact ⟨⟨a2, c2, rfl, HA2.out, HF2.out, HR2.out⟩, HB2.out⟩
end Go.Proofs.YtllpmepmgnnoaaaGreat
