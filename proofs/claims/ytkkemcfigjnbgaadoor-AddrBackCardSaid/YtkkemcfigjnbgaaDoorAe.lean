/- The document's own answer for an address's text: its contract. -/
import Derived.Test.YtkkemcfigjnbgaaDoorAd
namespace Go.Proofs.YtkkemcfigjnbgaaDoor
set_option linter.unusedVariables false
open Go.RowKit

def rGo : List UInt8 → Nat → List Nat → Option (List Nat)
  | [], n, vals => some (vals ++ [n])
  | c :: r, n, vals => if c = 46 then rGo r 0 (vals ++ [n]) else if c.toNat < 48 ∨ 57 < c.toNat ∨ 255 < n then none else rGo r (n * 10 + (c.toNat - 48)) vals

theorem rGo_digit (k n : Nat) (hk : k ≤ 9) (hn : n ≤ 255) (r : List UInt8) (vals : List Nat) : rGo (UInt8.ofNat (48 + k) :: r) n vals = rGo r (n * 10 + k) vals := by
  have e : (UInt8.ofNat (48 + k)).toNat = 48 + k := by simp; omega
  have h46 : ¬ UInt8.ofNat (48 + k) = 46 := by
    intro h
    have := congrArg UInt8.toNat h
    rw [e] at this
    simp at this
    omega
  conv => lhs; unfold rGo
  rw [if_neg h46, e, if_neg (by omega), show 48 + k - 48 = k by omega]
theorem rGo_d3 (v : Nat) (h : v ≤ 255) (r : List UInt8) (vals : List Nat) : rGo (d3 v ++ r) 0 vals = rGo r v vals := by
  unfold d3
  split
  · rw [List.cons_append, List.nil_append, rGo_digit _ _ (by omega) (by omega)]; simp
  · split
    · simp only [List.cons_append, List.nil_append]
      rw [rGo_digit _ _ (by omega) (by omega), rGo_digit _ _ (by omega) (by omega)]
      congr 1; omega
    · simp only [List.cons_append, List.nil_append]
      rw [rGo_digit _ _ (by omega) (by omega), rGo_digit _ _ (by omega) (by omega), rGo_digit _ _ (by omega) (by omega)]
      congr 1; omega
theorem rGo_dd {x : Int} (h0 : 0 ≤ x) (h1 : x ≤ 255) (r : List UInt8) (vals : List Nat) : rGo (dd x ++ r) 0 vals = rGo r x.toNat vals := rGo_d3 _ (by omega) r vals
theorem rGo_text {s : List UInt8} {a : Int} (h : IsText s a) : rGo s 0 [] = some [(byt a 0).toNat, (byt a 1).toNat, (byt a 2).toNat, (byt a 3).toNat] := by
  obtain ⟨h0, h1, rfl⟩ := h
  have g := byt_bd h0 h1
  show rGo (dd (byt a 0) ++ 46 :: (dd (byt a 1) ++ 46 :: (dd (byt a 2) ++ 46 :: dd (byt a 3)))) 0 [] = _
  rw [rGo_dd (g 0).1 (g 0).2, rGo, if_pos rfl, rGo_dd (g 1).1 (g 1).2, rGo, if_pos rfl, rGo_dd (g 2).1 (g 2).2, rGo, if_pos rfl]
  have := rGo_dd (g 3).1 (g 3).2 [] [(byt a 0).toNat, (byt a 1).toNat, (byt a 2).toNat]
  rw [List.append_nil] at this
  simpa [rGo] using this

def i64s (vals : List Nat) : List Value := vals.map fun (v : Nat) => Value.int .i64 (v : Int)
theorem Tryd.infoInt : (Tryd.prog.info? 3).map (fun i => (i.zero, i.size, i.bytes)) = some (some (.int .i64 0), 1, 8) := by kernel_rfl

/-- What stands at each round's head. -/
def Read (R : Option (List Nat)) (s : ByteArray) (w wr : World) (v : Value) (k n : Nat) (vals : List Nat) : Prop :=
  rGo (s.data.toList.drop k) n vals = R ∧ wr.ownsRow w.heap.size 3 1 v vals.length (i64s vals) ∧ Below w.heap.size w wr ∧ vals.length ≤ k ∧ (∀ x ∈ vals, x ≤ 2559)

theorem rgo_stop {c : UInt8} {r : List UInt8} {n : Nat} {vals : List Nat} {R : Option (List Nat)} (h : rGo (c :: r) n vals = R) (h46 : ¬ c.toNat = 46) (hs : c.toNat < 48 ∨ 57 < c.toNat ∨ 255 < n) : R = none := by
  unfold rGo at h
  rw [if_neg (by intro e; subst e; simp at h46), if_pos hs] at h
  exact h.symm
theorem rgo_go {c : UInt8} {r : List UInt8} {n : Nat} {vals : List Nat} {R : Option (List Nat)} (h : rGo (c :: r) n vals = R) (h46 : ¬ c.toNat = 46) (hs : ¬ (c.toNat < 48 ∨ 57 < c.toNat ∨ 255 < n)) : rGo r (n * 10 + (c.toNat - 48)) vals = R := by
  unfold rGo at h
  rw [if_neg (by intro e; subst e; simp at h46), if_neg hs] at h
  exact h
theorem rgo_dot {c : UInt8} {r : List UInt8} {n : Nat} {vals : List Nat} {R : Option (List Nat)} (h : rGo (c :: r) n vals = R) (h46 : c.toNat = 46) : rGo r 0 (vals ++ [n]) = R := by
  unfold rGo at h
  rw [if_pos (by apply UInt8.toNat.inj; simpa using h46)] at h
  exact h
theorem none_bad {s : List UInt8} (h : rGo s 0 [] = none) : ∀ a, ¬ IsText s a := by
  intro a ha
  rw [rGo_text ha] at h
  cases h

theorem read_dot {R : Option (List Nat)} {s : ByteArray} {w wr w1 : World} {v v' : Value} {k n : Nat} {vals : List Nat} {o : Obj} (h : Read R s w wr v k n vals) (hg : rGo (s.data.toList.drop (k + 1)) 0 (vals ++ [n]) = R) (hn : n ≤ 2559)
    (hsz : w.heap.size ≤ (wr.alloc o).heap.size) (hown : w1.ownsRow w.heap.size 3 1 v' (vals.length + 1) (i64s vals ++ [.int .i64 (n : Int)])) (hgr : (wr.alloc o).grownBy w1 v.ownBlock) : Read R s w w1 v' (k + 1) 0 (vals ++ [n]) := by
  obtain ⟨_, ho, hb, hl, hx⟩ := h
  refine ⟨hg, ?_, ?_, by simp; omega, ?_⟩
  · rw [show i64s (vals ++ [n]) = i64s vals ++ [.int .i64 (n : Int)] by simp [i64s], List.length_append]; exact hown
  · refine (hb.alloc hb.size o).grown hgr hsz ?_
    intro g hg
    rcases ho.2 with ⟨rfl, _⟩ | ⟨g', cap, cur, rfl, hle, _⟩
    · simp [Value.ownBlock] at hg
    · simp [Value.ownBlock] at hg; omega
  · intro x hx'
    rcases List.mem_append.1 hx' with hx' | hx'
    · exact hx x hx'
    · simp at hx'; omega
/-- Behind the loop: the numbers, one more. -/
def Done (R : Option (List Nat)) (w w1 : World) (v : Value) (vals : List Nat) : Prop := R = some vals ∧ w1.ownsRow w.heap.size 3 1 v vals.length (i64s vals) ∧ Below w.heap.size w w1 ∧ (∀ x ∈ vals, x ≤ 2559)
theorem read_end {R : Option (List Nat)} {s : ByteArray} {w wr w1 : World} {v v' : Value} {n : Nat} {vals : List Nat} {o : Obj} (h : Read R s w wr v s.size n vals) (hR : R = rGo s.data.toList 0 []) (hn : n ≤ 2559)
    (hsz : w.heap.size ≤ (wr.alloc o).heap.size) (hown : w1.ownsRow w.heap.size 3 1 v' (vals.length + 1) (i64s vals ++ [.int .i64 (n : Int)])) (hgr : (wr.alloc o).grownBy w1 v.ownBlock) : Done R w w1 v' (vals ++ [n]) := by
  have hd : s.data.toList.drop s.size = [] := List.drop_of_length_le (by simp)
  have h1 := h.1
  rw [hd] at h1
  obtain ⟨_, ho, hb, hl, hx⟩ := h
  refine ⟨by rw [← h1]; rfl, ?_, ?_, ?_⟩
  · rw [show i64s (vals ++ [n]) = i64s vals ++ [.int .i64 (n : Int)] by simp [i64s], List.length_append]; exact hown
  · refine (hb.alloc hb.size o).grown hgr hsz ?_
    intro g hg
    rcases ho.2 with ⟨rfl, _⟩ | ⟨g', cap, cur, rfl, hle, _⟩
    · simp [Value.ownBlock] at hg
    · simp [Value.ownBlock] at hg; omega
  · intro x hx'
    rcases List.mem_append.1 hx' with hx' | hx'
    · exact hx x hx'
    · simp at hx'; omega
theorem read_go {R : Option (List Nat)} {s : ByteArray} {w wr : World} {v : Value} {k n m : Nat} {vals : List Nat} (h : Read R s w wr v k n vals) (hg : rGo (s.data.toList.drop (k + 1)) m vals = R) : Read R s w wr v (k + 1) m vals :=
  ⟨hg, h.2.1, h.2.2.1, by have := h.2.2.2.1; omega, h.2.2.2.2⟩

theorem done_shape {R : Option (List Nat)} {w w1 : World} {v : Value} {l : List Nat} (h : Done R w w1 v l) (h0 : 0 < l.length) :
    ∃ g cap, v = .slice (some ⟨g, 0, none⟩) l.length cap ∧ (∀ i, i < l.length → w1.cell? ⟨g, i, none⟩ = some (.int .i64 (l.getD i 0 : Nat))) ∧ Below w.heap.size w w1 ∧ R = some l ∧ (∀ x ∈ l, x ≤ 2559) := by
  obtain ⟨hR, ho, hb, hx⟩ := h
  have ho' := ho
  rcases ho.2 with ⟨_, h⟩ | ⟨g, cap, cur, rfl, _⟩
  · omega
  · refine ⟨g, cap, rfl, ?_, hb, hR, hx⟩
    intro i hi
    rw [World.ownsRow.cellAt ho' i (by omega)]
    simp [i64s, List.getD_eq_getElem?_getD, hi]
def accN (l : List Nat) : Int := l.foldl (fun (a : Int) (x : Nat) => a * 256 + x) 0
theorem accN_succ (l : List Nat) (k : Nat) (h : k < l.length) : accN (l.take (k + 1)) = accN (l.take k) * 256 + (l.getD k 0 : Nat) := by
  unfold accN
  rw [List.take_add_one, List.getElem?_eq_getElem h, List.foldl_append, List.getD_eq_getElem?_getD, List.getElem?_eq_getElem h]
  rfl
theorem accN_pow (l : List Nat) : ∀ k, k ≤ 4 → (∀ j, j < k → l.getD j 0 ≤ 255) → 0 ≤ accN (l.take k) ∧ accN (l.take k) < (256 : Int) ^ k
  | 0, _, _ => by simp [accN]
  | k + 1, hk, h => by
    have ih := accN_pow l k (by omega) (fun j hj => h j (by omega))
    by_cases hkl : k < l.length
    · rw [accN_succ l k hkl, Int.pow_succ]
      have := h k (by omega)
      omega
    · rw [show l.take (k + 1) = l.take k by rw [List.take_of_length_le (by omega), List.take_of_length_le (by omega)], Int.pow_succ]
      omega
theorem accN_bd (l : List Nat) (k : Nat) (hk : k ≤ 3) (h : ∀ j, j < k → l.getD j 0 ≤ 255) : 0 ≤ accN (l.take k) ∧ accN (l.take k) < 16777216 := by
  have hp := accN_pow l k (by omega) h
  have : (256 : Int) ^ k ≤ 16777216 := by
    match k, hk with
    | 0, _ => decide
    | 1, _ => decide
    | 2, _ => decide
    | 3, _ => decide
  omega
theorem accN_bd4 (l : List Nat) (h : ∀ j, j < 4 → l.getD j 0 ≤ 255) : 0 ≤ accN (l.take 4) ∧ accN (l.take 4) ≤ 4294967295 := by
  have hp := accN_pow l 4 (by omega) h
  have : (256 : Int) ^ 4 = 4294967296 := by decide
  omega
theorem snoc_all {l : List Nat} {k : Nat} (h : ∀ j, j < k → l.getD j 0 ≤ 255) (hk : l.getD k 0 ≤ 255) : ∀ j, j < k + 1 → l.getD j 0 ≤ 255 := by
  intro j hj
  rcases Nat.lt_succ_iff_lt_or_eq.1 hj with hj | rfl
  · exact h j hj
  · exact hk
theorem len_bad {s : List UInt8} {l : List Nat} (h : rGo s 0 [] = some l) (h4 : ¬ l.length = 4) : ∀ a, ¬ IsText s a := by
  intro a ha
  rw [rGo_text ha] at h
  cases h
  exact h4 rfl
theorem big_bad {s : List UInt8} {l : List Nat} (h : rGo s 0 [] = some l) {k : Nat} (hk : k < 4) (hb : 255 < l.getD k 0) : ∀ a, ¬ IsText s a := by
  intro a ha
  have g := byt_bd ha.1 ha.2.1
  rw [rGo_text ha] at h
  cases h
  have g0 := g 0
  have g1 := g 1
  have g2 := g 2
  have g3 := g 3
  match k, hk with
  | 0, _ => simp at hb; omega
  | 1, _ => simp at hb; omega
  | 2, _ => simp at hb; omega
  | 3, _ => simp at hb; omega
theorem text_bad {s : List UInt8} {xs : List Nat} (h : rGo s 0 [] = some xs) {A : Int} (hA : A = accN xs) (ht : ¬ txt A = s) : ∀ a, ¬ IsText s a := by
  intro a ha
  have g := byt_bd ha.1 ha.2.1
  have hr := rGo_text ha
  rw [h] at hr
  cases hr
  apply ht
  have e : A = a := by
    rw [hA]
    have g0 := g 0
    have g1 := g 1
    have g2 := g 2
    have g3 := g 3
    have b0 := ha.1
    have b1 := ha.2.1
    simp only [accN, List.foldl, byt] at *
    omega
  rw [e]; exact ha.2.2
theorem text_end {s : List UInt8} {A : Int} (h : IsText s A) : Ending.returned (Value.tuple #[.int .u32 A, .int .i64 0]) = Ending.returned (Value.tuple #[.int .u32 (pv s), .int .i64 (pe s)]) := by
  rw [(p_yes h).1, (p_yes h).2]

set_option maxHeartbeats 4000000 in
theorem rParse (s : ByteArray) (w : World) (hs : s.size ≤ 1000000) :
    Calls Tryd.prog 23 #[.string s] w fun e w' => e = .returned (.tuple #[.int .u32 (pv s.data.toList), .int .i64 (pe s.data.toList)]) ∧ Below w.heap.size w w' := by
  obtain ⟨i0, hi, hz0, hz1, hz2⟩ := info_parts Tryd.infoInt
  have HI := Lib.hid hi
  have HZ0 := Lib.hid hz0
  have HZ1 := Lib.hid hz1
  have HZ2 := Lib.hid hz2
  clear hi hz0 hz1 hz2
  obtain ⟨R, hR⟩ : ∃ R, R = rGo s.data.toList 0 [] := ⟨_, rfl⟩
  have HR := Lib.hid hR
  clear hR
  go_enter Tryd.func23, Tryd.ntmps23
  go_wp2_with fail
  go_loopw [4, 5, 6] (fun v nv iv wr => ∃ (k n : Nat) (vals : List Nat), k ≤ s.size ∧ n ≤ 2559 ∧ iv = .int .i64 k ∧ nv = .int .i64 n ∧ Hid (Read R s w wr v k n vals)) (fun _ _ iv _ => s.size - (intOf iv).toNat)
  case atStart => exact ⟨0, 0, [], by omega, by omega, rfl, rfl, HR.out.symm, World.ownsRow_nil _ _ _ _, Below.refl _ _, by simp, by simp⟩
  case round =>
    obtain ⟨k, n, vals, hk, hn, rfl, rfl, HREAD⟩ := hrel
    by_cases hlt : k < s.size
    · have hgo : Hid (rGo (s[k] :: s.data.toList.drop (k + 1)) n vals = R) := by rw [← drop_cons s k hlt]; exact HREAD.out.1
      by_cases h46 : s[k].toNat = 46
      · have hb : (((s[k].toNat : Nat) : Int) == 46) = true := by rw [beq_iff_eq]; omega
        have H46 := Lib.hid h46
        clear h46
        have HOWN := Lib.hid HREAD.out.2.1
        have HVL := Lib.hid HREAD.out.2.2.2.1
        go_wp2_with (at_builtin; refine wpList_append_own _ rfl _ _ 52 rfl w.heap.size 3 i0 (.int .i64 0) 1 8 Tryd.underlying52 HI.out HZ0.out HZ1.out HZ2.out rfl (by decide) _ vals.length (i64s vals) rfl (HOWN.out.alloc _) ⟨wr.heap.size, 0, none⟩ 1 1 [.int .i64 n] rfl rfl ?c1 ?c2 ?c3 ?c4 ?c5 ?_)
        case c1 =>
          intro j u hj
          match j, hj with
          | 0, hj => simp at hj; subst hj; simp [Addr.add]
        case c2 => intro u hu; simp at hu; subst hu; rfl
        case c3 => have := HVL.out; unfold maxLen; omega
        case c4 => have := HVL.out; omega
        case c5 => have := HREAD.out.2.2.1.size; simp; omega
        intro v' w1 hown' hgr _
        have hnew := read_dot HREAD.out (rgo_dot hgo.out H46.out) hn (by have := HREAD.out.2.2.1.size; simp; omega) hown' hgr
        have HNEW := Lib.hid hnew
        clear hown' hgr hnew
        go_wp2_with fail
        go_roundw
        case rel => exact ⟨k + 1, 0, vals ++ [n], by omega, by omega, by go_num, rfl, HNEW.out⟩
        case measure => simp [intOf]; omega
      · have hb : (((s[k].toNat : Nat) : Int) == 46) = false := by rw [beq_eq_false_iff_ne]; omega
        by_cases hst : s[k].toNat < 48 ∨ 57 < s[k].toNat ∨ 255 < n
        · have hbad := bad_end (none_bad (HR.out.symm.trans (rgo_stop hgo.out h46 hst)))
          have HBAD := Lib.hid hbad
          clear hbad
          rcases hst with h1 | h1 | h1
          · go_wp2_with fail
            go_ret2
            exact ⟨HBAD.out, HREAD.out.2.2.1⟩
          · have h2 : ¬ s[k].toNat < 48 := by omega
            go_wp2_with fail
            go_ret2
            exact ⟨HBAD.out, HREAD.out.2.2.1⟩
          · by_cases h2 : s[k].toNat < 48
            · go_wp2_with fail
              go_ret2
              exact ⟨HBAD.out, HREAD.out.2.2.1⟩
            · by_cases h3 : 57 < s[k].toNat
              · go_wp2_with fail
                go_ret2
                exact ⟨HBAD.out, HREAD.out.2.2.1⟩
              · go_wp2_with fail
                go_ret2
                exact ⟨HBAD.out, HREAD.out.2.2.1⟩
        · have hnew := rgo_go hgo.out h46 hst
          have HNEW := Lib.hid (read_go HREAD.out hnew)
          clear hnew
          have h1 : ¬ s[k].toNat < 48 := by omega
          have h2 : ¬ 57 < s[k].toNat := by omega
          have h3 : ¬ 255 < n := by omega
          clear hst h46
          go_wp2_with fail
          go_roundw
          case rel => exact ⟨k + 1, n * 10 + (s[k].toNat - 48), vals, by omega, by omega, by go_num, by go_num, HNEW.out⟩
          case measure => simp [intOf]; omega
    · obtain rfl : k = s.size := by omega
      have HOWN := Lib.hid HREAD.out.2.1
      have HVL := Lib.hid HREAD.out.2.2.2.1
      go_wp2_with (at_builtin; refine wpList_append_own _ rfl _ _ 52 rfl w.heap.size 3 i0 (.int .i64 0) 1 8 Tryd.underlying52 HI.out HZ0.out HZ1.out HZ2.out rfl (by decide) _ vals.length (i64s vals) rfl (HOWN.out.alloc _) ⟨wr.heap.size, 0, none⟩ 1 1 [.int .i64 n] rfl rfl ?d1 ?d2 ?d3 ?d4 ?d5 ?_)
      case d1 =>
        intro j u hj
        match j, hj with
        | 0, hj => simp at hj; subst hj; simp [Addr.add]
      case d2 => intro u hu; simp at hu; subst hu; rfl
      case d3 => have := HVL.out; unfold maxLen; omega
      case d4 => have := HVL.out; omega
      case d5 => have := HREAD.out.2.2.1.size; simp; omega
      intro v' w1 hown' hgr _
      have hfin := read_end HREAD.out HR.out hn (by have := HREAD.out.2.2.1.size; simp; omega) hown' hgr
      obtain ⟨l, hl⟩ : ∃ l, l = vals ++ [n] := ⟨_, rfl⟩
      rw [← hl] at hfin
      have hlen : vals.length + 1 = l.length := by rw [hl]; simp
      obtain ⟨g, cap, hv, hcell, hbel, hRl, hx⟩ := done_shape hfin (by omega)
      rw [hv]
      have HC := Lib.hid hcell
      have HB := Lib.hid hbel
      have HRL := Lib.hid (HR.out.symm.trans hRl)
      clear hown' hgr hfin hcell hbel hRl hx hl hlen hv HREAD HOWN HVL
      by_cases h4 : l.length = 4
      · match l, h4 with
        | [v0, v1, v2, v3], _ =>
          have hne : ((([v0, v1, v2, v3].length : Nat) : Int) != 4) = false := rfl
          obtain ⟨xs, hxs⟩ : ∃ xs, xs = [v0, v1, v2, v3] := ⟨_, rfl⟩
          have HXS := Lib.hid hxs
          rw [← hxs] at HC HRL
          clear hxs
          go_wp2_with fail
          go_loop [7, 8] (fun av iv => ∃ k : Nat, k ≤ 4 ∧ iv = .int .i64 k ∧ av = .int .u32 (accN (xs.take k)) ∧ Hid (∀ j, j < k → xs.getD j 0 ≤ 255)) (fun _ iv => 4 - (intOf iv).toNat)
          case atStart => exact ⟨0, by omega, rfl, rfl, fun j hj => absurd hj (by omega)⟩
          case round =>
            obtain ⟨k, hk, rfl, rfl, HLT⟩ := hrel
            by_cases hlt : k < 4
            · have hck := HC.out k (by rw [HXS.out]; exact hlt)
              obtain ⟨x, hx⟩ : ∃ x, x = xs.getD k 0 := ⟨_, rfl⟩
              rw [← hx] at hck
              have HX := Lib.hid hx
              clear hx
              by_cases hx : x ≤ 255
              · have hacc := accN_succ xs k (by rw [HXS.out]; exact hlt)
                rw [← HX.out] at hacc
                have hbd := accN_bd xs k (by omega) HLT.out
                have HACC := Lib.hid hacc
                obtain ⟨hbd0, hbd1⟩ := hbd
                clear hacc
                go_wp2_with fail
                go_round
                case rel => exact ⟨k + 1, by omega, by go_num, by rw [HACC.out], snoc_all HLT.out (by rw [← HX.out]; exact hx)⟩
                case measure => simp [intOf]; omega
              · have hbad := bad_end (big_bad HRL.out (k := k) hlt (by rw [← HX.out]; omega))
                have HBAD := Lib.hid hbad
                clear hbad
                go_wp2_with fail
                go_ret2
                exact ⟨HBAD.out, HB.out⟩
            · obtain rfl : k = 4 := by omega
              have hbd := accN_bd4 xs HLT.out
              obtain ⟨A, hA⟩ : ∃ A, A = accN (xs.take 4) := ⟨_, rfl⟩
              rw [← hA] at hbd
              rw [← hA]
              have HA := Lib.hid hA
              clear hA
              obtain ⟨hbd0, hbd1⟩ := hbd
              go_wp2_with fail
              refine (rText A _ hbd0 hbd1).mono ?_
              rintro e w2 ⟨rfl, hb2⟩
              have HB2 := Lib.hid (HB.out.trans (hb2.mono HB.out.size))
              clear hb2
              by_cases ht : txt A = s.data.toList
              · have hgood := text_end ⟨hbd0, hbd1, ht⟩
                have HG := Lib.hid hgood
                have hs2 : (⟨(txt A).toArray⟩ : ByteArray) = s := by apply ByteArray.ext; simp [ht]
                rw [hs2]
                clear hs2 hgood
                have HT := Lib.hid ht
                clear ht
                go_wp2_with fail
                go_ret2
                exact ⟨HG.out, HB2.out⟩
              · have hbad := bad_end (text_bad HRL.out (A := A) (by rw [HA.out, HXS.out]; rfl) ht)
                have HBAD := Lib.hid hbad
                have hb : (txt A == s.toList) = false := by rw [ByteArray.toList_eq, beq_eq_false_iff_ne]; exact ht
                have HT := Lib.hid ht
                clear hbad ht
                go_wp2_with fail
                go_ret2
                exact ⟨HBAD.out, HB2.out⟩
      · have hbad := bad_end (len_bad HRL.out h4)
        have HBAD := Lib.hid hbad
        have hne : (((l.length : Nat) : Int) != 4) = true := by rw [bne_iff_ne]; omega
        clear hbad h4
        go_wp2_with fail
        go_ret2
        exact ⟨HBAD.out, HB.out⟩
end Go.Proofs.YtkkemcfigjnbgaaDoor
