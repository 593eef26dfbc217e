/- Contracts of package sum: the sum of bytes. -/
import Derived.Test.YthmejokjbkkfbaaSb
namespace Go.Proofs.Ythmejokjbkkfbaa
set_option linter.unusedVariables false
open Go.RowKit Go.Shelf
attribute [local go_sem] Oper.semAt_some

def tots : List W16 → Int
  | [] => 0
  | x :: l => x.1 + tots l
theorem tots_snoc (l : List W16) (x : W16) : tots (l ++ [x]) = tots l + x.1 := by
  induction l with
  | nil => simp [tots]
  | cons y l ih => simp only [List.cons_append, tots, ih]; omega
theorem tots_pos (l : List W16) : 0 ≤ tots l := by
  induction l with
  | nil => simp [tots]
  | cons y l ih => have := y.2.1; simp only [tots]; omega
theorem tots_words {xs : List Int} (h : IsB xs) (k : Nat) : tots (words h k) = tot (xs.take (2 * k)) := by
  induction k with
  | zero => simp [words, tots, tot]
  | succ k ih => rw [words_succ, tots_snoc, ih, tot_step]

set_option maxRecDepth 100000 in
set_option maxHeartbeats 2000000 in
theorem sOf_in (a : Option Addr) (len cap : Nat) (xs : List Int) (w : World) (hx : xs.length = len) (hlen : len ≤ 1000000) (hb : Bs w a xs) :
    CallsIn Fence.wide 5 Try.prog 40 #[.slice a len cap] w fun e w' => e = .returned (.int .u16 (ofs xs)) ∧ Below w.heap.size w w' := by
  obtain ⟨N, hN, hN'⟩ : ∃ N, len ≤ 2 * N ∧ 2 * N ≤ len + 1 := ⟨(len + 1) / 2, by omega, by omega⟩
  have HX := Lib.hid hx
  clear hx
  refine callsIn_of_wp_marks Try.func40 rfl trivial ?_ rfl
  simp only [Try.ntmps40, List.size_toArray, List.length_cons, List.length_nil, Nat.reduceAdd, Nat.reduceSub, Array.replicate_succ, Array.replicate_zero, List.push_toArray, List.append_toArray, List.nil_append, List.cons_append]
  gi_wp2_with (refine ⟨trivial, ?_⟩; gi_at_call 43; refine (callsIn_wide.2 (sWords _ _ _ _)).mono ?_; rintro e w' ⟨rfl, rfl⟩)
  have bS := Boxed.new w 24 (.int .u16 0)
  have bN := Boxed.new (w.alloc (.cells #[.int .u16 0] 24)) 27 (.slice a len cap)
  rw [World.size_alloc] at bN
  have hB0 : Below w.heap.size w ((w.alloc (.cells #[.int .u16 0] 24)).alloc (.cells #[.slice a len cap] 27)) := ((Below.refl _ w).alloc (Nat.le_refl _) _).alloc (by simp) _
  refine wpIn_rangeFunc_ownG rfl (by omega) (gf := 45) (lb := #[.pointer (some ⟨w.heap.size + 1, 0, none⟩)]) rfl trivial (enters_of Try.func45 (by kernel_rfl) rfl)
    (words_stops Fence.wide _ trivial rfl (by omega) (w.heap.size + 1) N a len cap xs HX.out hN hN' hlen w _ hB0 (by simp) bN.cell hb) kpB_t (kpB_b (by simp; omega)) (Below.refl _ _) (fun _ => rfl)
    (fun pre W => (W.cell? ⟨w.heap.size, 0, none⟩ = some (.int .u16 (nrm (tots pre))) ∧ W.frozen? ⟨w.heap.size, 0, none⟩ = false) ∧ Below w.heap.size w W)
    (fun _ _ _ => False)
    (OwnFrom.and (Own.from (fun s A B row hs hg hr => ⟨cell_kept hs.1 hg hr, (frozen_kept hs.1 hg hr).trans hs.2⟩) _) (ownFrom_below (Nat.le_refl _) (by simp; omega)))
    (fun _ _ _ _ _ hs _ _ => hs)
    ⟨⟨(bS.alloc _).cell, (bS.alloc _).frozen⟩, hB0⟩
    (fun x => { tmps := #[.slice a len cap, undef, .int .u16 0, .pointer (some ⟨w.heap.size, 0, none⟩), .int .u16 x.1, .slice a len cap, .func (.func 45) #[] #[.pointer (some ⟨w.heap.size + 1, 0, none⟩)], .int .u16 x.1, undef, undef, undef, undef, undef], defers := [] }) ?assign ?body ?done ?stop
  case assign =>
    intro l x W K hK
    gi_wp2
    exact hK
  case body =>
    rintro l pre x W ⟨⟨hc, hf⟩, hB⟩ _
    have b1 := nrm_bd (tots_pos pre)
    have b2 := x.2
    gi_wp2_with (refine ⟨trivial, ?_⟩; gi_at_call 44; refine (CallsIn.inRound l (callsIn_wide.2 (sJoin _ _ _ b1 b2))).mono ?_; rintro e w' ⟨rfl, rfl⟩)
    exact ⟨(KeepsOthers.setCell _ _ _).from _, ⟨(Below.refl w.heap.size W).setCell (p := ⟨w.heap.size, 0, none⟩) (Nat.le_refl _) _, fun v hv => by rw [World.cell?_setCell_other _ _ _ _ (by simp)]; exact hv⟩,
      ⟨by rw [tots_snoc, ← nrm_jn (tots_pos pre) x.2.1 x.2.2]; exact World.cell?_setCell_same' _ _ _ (by rw [hc]; rfl), by rw [World.frozen?_setCell]; exact hf⟩, hB.setCell (p := ⟨w.heap.size, 0, none⟩) (Nat.le_refl _) _⟩
  case done =>
    rintro D ys W hD rfl ⟨⟨hc0, _⟩, hB⟩ hK
    have e : nrm (tots (words hb.2 N)) = nrm (tot xs) := congrArg nrm ((tots_words hb.2 N).trans (tot_full xs (by rw [HX.out]; exact hN)))
    have hc : W.cell? ⟨w.heap.size, 0, none⟩ = some (.int .u16 (nrm (tot xs))) := hc0.trans (congrArg (fun t => some (Value.int .u16 t)) e)
    have b1 := nrm_bd (tot_pos hb.2)
    have en := not16 b1.1 b1.2
    have EN := Lib.hid en
    clear e en hc0
    gi_wp2
    refine ⟨by simp, .inl ⟨_, _, rfl, run_takeDeferred hK, ?_⟩⟩
    refine ⟨_, results_tmp rfl _ _ _, ?_, hB.trans (belowK_b (w := w) (Nat.le_refl _) W D _ _ (by simp at hD; omega) hK rfl rfl)⟩
    exact ret_int EN.out
  case stop =>
    rintro D c pre W _ _ h _
    exact h.elim
theorem sOf (a : Option Addr) (len cap : Nat) (xs : List Int) (w : World) (hx : xs.length = len) (hlen : len ≤ 1000000) (hb : Bs w a xs) :
    Calls Try.prog 40 #[.slice a len cap] w fun e w' => e = .returned (.int .u16 (ofs xs)) ∧ Below w.heap.size w w' :=
  (callsIn_wide (n := 5)).1 (sOf_in a len cap xs w hx hlen hb)

theorem sWhole (a : Option Addr) (len cap : Nat) (xs : List Int) (w : World) (hx : xs.length = len) (hlen : len ≤ 1000000) (hb : Bs w a xs) :
    Calls Try.prog 34 #[.slice a len cap] w fun e w' => e = .returned (.bool (ofs xs == 0)) ∧ Below w.heap.size w w' := by
  have HX := Lib.hid hx
  have HB := Lib.hid hb
  clear hx hb
  go_enter Try.func34, Try.ntmps34
  go_wp2_with (go_at_call 40; refine (sOf _ _ _ xs _ HX.out hlen HB.out).mono ?_; rintro e w' ⟨rfl, hb1⟩)
  go_ret
  exact ⟨rfl, hb1⟩
/-- A slice of bytes with a word at its head that may be written. -/
theorem sput (b off n cap : Nat) (v u1 u2 : Int) (w : World) (h0 : 0 ≤ v) (h1 : v ≤ 65535) (hn : 2 ≤ n)
    (c1 : w.cell? ⟨b, off, none⟩ = some (.int .u8 u1)) (c2 : w.cell? ⟨b, off + 1, none⟩ = some (.int .u8 u2)) (f1 : w.frozen? ⟨b, off, none⟩ = false) (f2 : w.frozen? ⟨b, off + 1, none⟩ = false) :
    Calls Try.prog 42 #[.slice (some ⟨b, off, none⟩) n cap, .int .u16 v] w fun e w' => e = .returned (.tuple #[]) ∧ (w.setCell ⟨b, off, none⟩ (.int .u8 (v / 256))).setCell ⟨b, off + 1, none⟩ (.int .u8 (v % 256)) = w' := by
  go_enter Try.func42, Try.ntmps42
  go_wp2
  go_end0
  exact ⟨rfl, rfl⟩
end Go.Proofs.Ythmejokjbkkfbaa
