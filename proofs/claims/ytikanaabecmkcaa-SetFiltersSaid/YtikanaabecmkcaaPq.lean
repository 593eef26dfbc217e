/- The document's own Make. -/
import Derived.Test.YtikanaabecmkcaaPp
import Derived.BigQuiet
namespace Go.Proofs.Ytikanaabecmkcaa
set_option linter.unusedVariables false
open Go.RowKit

theorem mk_has {l : List Int} {y : Int} (h : y ∈ mk l) : mk (l ++ [y]) = mk l := inc_ext (mk_inc _) (mk_inc _) fun x => by
  rw [mk_mem, mk_mem, List.mem_append, List.mem_singleton]
  constructor
  · rintro (h1 | rfl)
    · exact h1
    · exact (mk_mem x l).1 h
  · exact .inl
theorem mk_put {l : List Int} {y : Int} {j : Nat} (hn : y ∉ mk l) (hj : j ≤ (mk l).length) (hlt : ∀ i, i < j → (mk l).getD i 0 < y) (hge : j < (mk l).length → y ≤ (mk l).getD j 0) : mk (l ++ [y]) = (mk l).take j ++ [y] ++ (mk l).drop j := by
  have hI : (mk l).Pairwise (· < ·) := mk_inc l
  have ha : ∀ a ∈ (mk l).take j, a < y := by
    intro a h
    obtain ⟨i, hi, e⟩ := List.getElem_of_mem h
    have hij : i < j := by simp at hi; omega
    have h2 := hlt i hij
    rw [List.getElem_take] at e
    rw [List.getD_eq_getElem?_getD, List.getElem?_eq_getElem (by omega)] at h2
    simp at h2
    omega
  have hb : ∀ b ∈ (mk l).drop j, y < b := by
    intro b h
    by_cases hjl : j < (mk l).length
    · have h2 := hge hjl
      have hd : (mk l).drop j = (mk l).getD j 0 :: (mk l).drop (j + 1) := by
        rw [List.drop_eq_getElem_cons hjl, List.getD_eq_getElem?_getD, List.getElem?_eq_getElem hjl]; rfl
      have hm : (mk l).getD j 0 ∈ mk l := by
        rw [List.getD_eq_getElem?_getD, List.getElem?_eq_getElem hjl]; exact List.getElem_mem _
      have h3 : y < (mk l).getD j 0 := by
        have : (mk l).getD j 0 ≠ y := fun e => hn (e ▸ hm)
        omega
      rw [hd] at h
      rcases List.mem_cons.1 h with rfl | h
      · exact h3
      · have h4 : ((mk l).drop j).Pairwise (· < ·) := List.Pairwise.sublist (List.drop_sublist _ _) hI
        rw [hd, List.pairwise_cons] at h4
        have := h4.1 b h
        omega
    · rw [List.drop_eq_nil_of_le (by omega)] at h; cases h
  have hinc : Inc ((mk l).take j ++ [y] ++ (mk l).drop j) := by
    show List.Pairwise (· < ·) _
    rw [List.append_assoc, List.pairwise_append]
    refine ⟨List.Pairwise.sublist (List.take_sublist _ _) hI, ?_, ?_⟩
    · rw [List.singleton_append, List.pairwise_cons]
      exact ⟨hb, List.Pairwise.sublist (List.drop_sublist _ _) hI⟩
    · intro a h1 b h2
      rw [List.singleton_append] at h2
      rcases List.mem_cons.1 h2 with rfl | h2
      · exact ha a h1
      · have := ha a h1; have := hb b h2; omega
  refine inc_ext (mk_inc _) hinc fun x => ?_
  rw [mk_mem, List.mem_append, List.append_assoc, List.mem_append, List.mem_append, List.mem_singleton]
  have hx : x ∈ l ↔ x ∈ (mk l).take j ∨ x ∈ (mk l).drop j := by
    rw [← mk_mem x l, ← List.mem_append, List.take_append_drop]
  rw [hx]
  constructor
  · rintro ((h | h) | h)
    · exact .inl h
    · exact .inr (.inr h)
    · exact .inr (.inl h)
  · rintro (h | h | h)
    · exact .inl (.inl h)
    · exact .inr h
    · exact .inl (.inr h)
theorem take_succ' {xs : List Int} {k : Nat} (h : k < xs.length) : xs.take (k + 1) = xs.take k ++ [xs.getD k 0] := by
  rw [List.take_add_one, List.getElem?_eq_getElem h, List.getD_eq_getElem?_getD, List.getElem?_eq_getElem h]; rfl
theorem as_drop {w : World} {g : Nat} {L : List Int} {j : Nat} (h : As w (some ⟨g, 0, none⟩) L) (hj : j ≤ L.length) : As w (some ⟨g, j, none⟩) (L.drop j) := by
  have hg : ∀ k, (L.drop j).getD k 0 = L.getD (j + k) 0 := fun k => by rw [List.getD_eq_getElem?_getD, List.getD_eq_getElem?_getD, List.getElem?_drop]
  refine ⟨.inr ⟨g, j, rfl, fun k hk => ?_⟩, fun k hk => ?_⟩
  · rw [List.length_drop] at hk
    rw [hg]
    rcases h.1 with e | ⟨b, off, e, hc⟩
    · rw [e] at hk; simp at hk
    · cases e
      have := hc (j + k) (by omega)
      rwa [Nat.zero_add] at this
  · rw [List.length_drop] at hk
    rw [hg]
    exact h.2 (j + k) (by omega)
theorem own_base {w : World} {B B' n size : Nat} {e : TypeId} {v : Value} {xs : List Value} (h : w.ownsRow B e size v n xs) (hB : B' ≤ B) : w.ownsRow B' e size v n xs := by
  refine ⟨h.1, ?_⟩
  rcases h.2 with e | ⟨g, c, cur, e, h1, h2⟩
  · exact .inl e
  · exact .inr ⟨g, c, cur, e, Nat.le_trans hB h1, h2⟩
set_option linter.unusedSimpArgs false in
set_option maxRecDepth 100000 in
set_option maxHeartbeats 8000000 in
theorem rMake (a : Option Addr) (n c : Nat) (xs : List Int) (w : World) (hx : xs.length = n) (hn : n ≤ 100000) (h1 : As w a xs) :
    Calls Try.prog 16 #[.slice a n c] w fun e w' => Out w e w' (mk xs) := by
  have HX := Lib.hid hx
  have H1 := Lib.hid h1
  clear hx h1
  go_enter Try.func16, Try.ntmps16
  go_wp2
  go_loopw [3, 4, 5, 6, 7] (fun v3 v4 v5 v6 v7 wr => ∃ k : Nat, v4 = .int .i64 (k : Int) ∧ k ≤ n ∧ wr.ownsRow w.heap.size 24 1 v3 (mk (xs.take k)).length (va (mk (xs.take k))) ∧ Below w.heap.size w wr) (fun _ v _ _ _ _ => n - (intOf v).toNat)
  case atStart => exact ⟨0, rfl, by omega, World.ownsRow_nil _ _ _ _, Below.refl _ _⟩
  case round =>
    obtain ⟨k, rfl, hk, ho, hB⟩ := hrel
    have HO := Lib.hid ho
    have HB := Lib.hid hB
    clear ho hB
    by_cases hlt : k < n
    · obtain ⟨b', off, rfl, hc⟩ := (H1.out.below HB.out).at (k := k) (by rw [HX.out]; exact hlt)
      have c0 := hc k (by rw [HX.out]; exact hlt)
      have hkz : (k : Int) < (n : Int) := by omega
      have HTk := Lib.hid (take_succ' (xs := xs) (k := k) (by rw [HX.out]; exact hlt))
      have HR := Lib.hid (H1.out.2 k (by rw [HX.out]; exact hlt))
      have HIA : IsA (mk (xs.take k)) := mk_isA (isA_iff.2 fun z hz => isA_iff.1 H1.out.2 z (List.mem_of_mem_take hz))
      have hll : (mk (xs.take k)).length ≤ n := Nat.le_trans (mk_len _) (by rw [List.length_take]; omega)
      clear hc
      generalize xs.getD k 0 = y at *
      obtain ⟨L, hL⟩ : ∃ L, mk (xs.take k) = L := ⟨_, rfl⟩
      have HLe := Lib.hid hL
      have HO' := HO.out
      rw [hL] at HO' HIA hll
      clear HO hL
      obtain ⟨a3, c3, rfl, hf3⟩ := own_sl HO'
      have hAL := (AsO.of rfl HO').as HIA
      have HAL := Lib.hid hAL
      have HO := Lib.hid HO'
      clear hAL HO' HIA
      go_wp2_with fail
      refine (rHas a3 L.length c3 L y _ rfl (by omega) HAL.out).mono ?_
      rintro e w2 ⟨rfl, rfl⟩
      by_cases hin : y ∈ L
      · have HIN := Lib.hid hin
        rw [decide_eq_true hin]
        clear hin
        go_wp2_with fail
        go_roundw
        case rel =>
          refine ⟨k + 1, by go_num, by omega, ?_, HB.out⟩
          have e1 := mk_has (l := xs.take k) (y := y) (by rw [HLe.out]; exact HIN.out)
          rw [HLe.out, ← HTk.out] at e1
          rw [e1]
          exact HO.out
        case measure => simp [intOf]; omega
      · have HNI := Lib.hid hin
        rw [decide_eq_false hin]
        clear hin
        have hcap : L.length ≤ c3 := (by
          rcases HO.out.2 with ⟨e, h0⟩ | ⟨g, cap, cur, e, _, _, hnc, _⟩
          · omega
          · simp at e; omega)
        have hgo : a3 = none ∧ L.length = 0 ∧ c3 = 0 ∨ ∃ g, a3 = some ⟨g, 0, none⟩ := (by
          rcases HO.out.2 with ⟨e, h0⟩ | ⟨g, cap, cur, e, _⟩
          · simp at e; exact .inl ⟨e.1, h0, e.2.2⟩
          · simp at e; exact .inr ⟨g, e.1⟩)
        go_wp2_with fail
        go_loopw [6, 7] (fun v6 v7 wr => ∃ j : Nat, v7 = .int .i64 (j : Int) ∧ j ≤ L.length ∧ wr.ownsRow w2.heap.size 24 1 v6 j (va (L.take j)) ∧ (∀ i, i < j → L.getD i 0 < y) ∧ Below w2.heap.size w2 wr) (fun _ v _ => L.length - (intOf v).toNat)
        case atStart => exact ⟨0, rfl, by omega, World.ownsRow_nil _ _ _ _, fun i hi => absurd hi (by omega), Below.refl _ _⟩
        case round =>
          obtain ⟨j, rfl, hj, ho2, hlt2, hB2⟩ := hrel
          have HO2 := Lib.hid ho2
          have HLT := Lib.hid hlt2
          have HB2 := Lib.hid hB2
          clear ho2 hlt2 hB2
          have c0 := (HB2.out.cell (cell_lt c0)).trans c0
          by_cases hjl : j < L.length
          · obtain ⟨g, rfl⟩ : ∃ g, a3 = some ⟨g, 0, none⟩ := (by
              rcases hgo with ⟨_, h0, _⟩ | h
              · omega
              · exact h)
            have c1 : wr.cell? ⟨g, j, none⟩ = some (.int .u32 (L.getD j 0)) := (by
              obtain ⟨b3, o3, e, hc⟩ := (HAL.out.below HB2.out).at hjl
              cases e
              have := hc j hjl
              rwa [Nat.zero_add] at this)
            have hjz : (j : Int) < (L.length : Int) := by omega
            by_cases hzy : L.getD j 0 < y
            · have HZY := Lib.hid hzy
              have HTJ := Lib.hid (take_succ' (xs := L) (k := j) hjl)
              have HRz := Lib.hid (HAL.out.2 j hjl)
              have HSL : Hid (∀ i, i < j + 1 → L.getD i 0 < y) := Lib.hid (fun i hi => by
                rcases Nat.lt_succ_iff_lt_or_eq.1 hi with hi | rfl
                · exact HLT.out i hi
                · exact hzy)
              generalize L.getD j 0 = z at *
              go_wp2_with fail
              go_quiet (fail)
              have HBq := Lib.hid (bdrawn HB2.out nq)
              have HOq := Lib.hid (own_grown HO2.out (bdrawn (Below.refl wr.heap.size wr) nq) (Nat.le_refl _))
              have c0 : (wr.drewN nq).cell? _ = _ := ((bdrawn (Below.refl wr.heap.size wr) nq).cell (cell_lt c0)).trans c0
              have c1 : (wr.drewN nq).cell? _ = _ := ((bdrawn (Below.refl wr.heap.size wr) nq).cell (cell_lt c1)).trans c1
              generalize wr.drewN nq = wq at *
              have HYn : As (wq.alloc (.cells #[.int .u32 z] 24)) (some ⟨wq.heap.size, 0, none⟩) [z] := as_new wq [z] (isA_iff.2 (by intro u hu; simp at hu; subst hu; exact HRz.out))
              have HYm := Lib.hid HYn
              clear HYn
              go_wp2_with (first | (refine wpList_app_as rfl (.tmp 36) (.tmp 41) rfl w2.heap.size _ j (L.take j) rfl (HOq.out.alloc _) (by rw [List.length_take]; omega) (some ⟨wq.heap.size, 0, none⟩) 1 1 [z] rfl rfl HYm.out (fun e => by cases e) (by omega) (Nat.le_trans HBq.out.size (by rw [World.size_alloc]; omega)) ?_; intro a1 c1' wa o1 g1; have G1 := Lib.hid (HBq.out.trans (((Below.refl _ wq).alloc HBq.out.size _).trans (grown_below (HOq.out.alloc _) g1.out (Nat.le_trans HBq.out.size (by rw [World.size_alloc]; omega))))); clear g1))
              go_roundw
              case rel =>
                refine ⟨j + 1, by go_num, by omega, ?_, HSL.out, G1.out⟩
                rw [HTJ.out]
                exact o1.out
              case measure => simp [intOf]; omega
            · have hzf : decide (L.getD j 0 < y) = false := decide_eq_false hzy
              have HGE : Hid (j < L.length → y ≤ L.getD j 0) := Lib.hid fun _ => Int.not_lt.1 hzy
              clear hzy
              generalize L.getD j 0 = z at c1 hzf
              go_wp2_with fail
              go_quiet (fail)
              have HBq := Lib.hid (bdrawn HB2.out nq)
              have HOq := Lib.hid (own_grown HO2.out (bdrawn (Below.refl wr.heap.size wr) nq) (Nat.le_refl _))
              have c0 : (wr.drewN nq).cell? _ = _ := ((bdrawn (Below.refl wr.heap.size wr) nq).cell (cell_lt c0)).trans c0
              generalize wr.drewN nq = wq at *
              have HYn : As (wq.alloc (.cells #[.int .u32 y] 24)) (some ⟨wq.heap.size, 0, none⟩) [y] := as_new wq [y] (isA_iff.2 (by intro u hu; simp at hu; subst hu; exact HR.out))
              have HYm := Lib.hid HYn
              clear HYn
              go_upto_region 13 with ((refine wpList_app_as rfl (.tmp 45) (.tmp 50) rfl w2.heap.size _ j (L.take j) rfl (HOq.out.alloc _) (by rw [List.length_take]; omega) (some ⟨wq.heap.size, 0, none⟩) 1 1 [y] rfl rfl HYm.out (fun e => by cases e) (by omega) (Nat.le_trans HBq.out.size (by rw [World.size_alloc]; omega)) ?_; intro a1 c1' wa o1 g1; have G1 := Lib.hid (HBq.out.trans (((Below.refl _ wq).alloc HBq.out.size _).trans (grown_below (HOq.out.alloc _) g1.out (Nat.le_trans HBq.out.size (by rw [World.size_alloc]; omega))))); clear g1))
              have d1 : (L.take j ++ [y]).length = j + 1 := by rw [List.length_append, List.length_take]; simp; omega
              have dn : (L.drop j).length = L.length - j := List.length_drop
              have dA := Lib.hid (as_drop (g := g) (j := j) (HAL.out.below G1.out) hj)
              go_wp2_with (first | (refine wpList_app_as rfl (.tmp 52) (.tmp 55) rfl w2.heap.size _ (j + 1) (L.take j ++ [y]) rfl o1.out d1 (some ⟨g, j, none⟩) (L.length - j) _ (L.drop j) rfl dn dA.out (by first | exact fun e => by cases e | exact fun _ => rfl) (by omega) G1.out.size ?_; intro a2 c2' wb o2 g2; have G2 := Lib.hid (G1.out.trans (grown_below o1.out g2.out G1.out.size)); clear g2))
              all_goals
                go_roundw
                case rel =>
                  refine ⟨k + 1, by go_num, by omega, ?_, HB.out.trans (G2.out.mono HB.out.size)⟩
                  have e1 := mk_put (l := xs.take k) (y := y) (j := j) (by rw [HLe.out]; exact HNI.out) (by rw [HLe.out]; exact hj) (by rw [HLe.out]; exact HLT.out) (by rw [HLe.out]; exact HGE.out)
                  rw [HLe.out, ← HTk.out] at e1
                  have e2 : L.length = j + (L.length - j) := by omega
                  have e3 : (mk (xs.take (k + 1))).length = j + 1 + (L.length - j) := by rw [e1]; simp; omega
                  first
                  | (rw [e3, e1]; exact own_base o2.out HB.out.size)
                  | (have e4 : L.length - j = 0 := (by omega); rw [e3, e1, e4]; exact own_base o2.out HB.out.size)
                case measure => simp [intOf]; omega
          · obtain rfl : j = L.length := by omega
            have HE1 : Hid (mk (xs.take (k + 1)) = L ++ [y]) := Lib.hid (by
              have e1 := mk_put (l := xs.take k) (y := y) (j := L.length) (by rw [HLe.out]; exact HNI.out) (by rw [HLe.out]; exact Nat.le_refl _) (by rw [HLe.out]; exact HLT.out) (by rw [HLe.out]; intro h; omega)
              rw [HLe.out, ← HTk.out] at e1
              rw [e1, List.take_length, List.drop_length, List.append_nil])
            have hjf : decide ((L.length : Int) < (L.length : Int)) = false := decide_eq_false (by omega)
            rcases hgo with ⟨rfl, h0, rfl⟩ | ⟨g, rfl⟩
            · obtain rfl : L = [] := List.eq_nil_of_length_eq_zero h0
              simp only [List.length_nil]
              simp only [List.length_nil] at hjf
              go_wp2_with fail
              go_quiet (fail)
              have HBq := Lib.hid (bdrawn HB2.out nq)
              have HOq := Lib.hid (own_grown HO2.out (bdrawn (Below.refl wr.heap.size wr) nq) (Nat.le_refl _))
              have c0 : (wr.drewN nq).cell? _ = _ := ((bdrawn (Below.refl wr.heap.size wr) nq).cell (cell_lt c0)).trans c0
              generalize wr.drewN nq = wq at *
              have HYn : As (wq.alloc (.cells #[.int .u32 y] 24)) (some ⟨wq.heap.size, 0, none⟩) [y] := as_new wq [y] (isA_iff.2 (by intro u hu; simp at hu; subst hu; exact HR.out))
              have HYm := Lib.hid HYn
              clear HYn
              go_upto_region 13 with ((refine wpList_app_as rfl (.tmp 45) (.tmp 50) rfl w2.heap.size _ 0 ([]) rfl (HOq.out.alloc _) (by simp) (some ⟨wq.heap.size, 0, none⟩) 1 1 [y] rfl rfl HYm.out (fun e => by cases e) (by omega) (Nat.le_trans HBq.out.size (by rw [World.size_alloc]; omega)) ?_; intro a1 c1' wa o1 g1; have G1 := Lib.hid (HBq.out.trans (((Below.refl _ wq).alloc HBq.out.size _).trans (grown_below (HOq.out.alloc _) g1.out (Nat.le_trans HBq.out.size (by rw [World.size_alloc]; omega))))); clear g1))
              go_wp2_with (first | (refine wpList_app_as rfl (.tmp 52) (.tmp 55) rfl w2.heap.size _ 1 ([] ++ [y]) rfl o1.out (by simp) _ 0 _ [] rfl rfl (As.nil _ _) (fun _ => rfl) (by omega) G1.out.size ?_; intro a2 c2' wb o2 g2; have G2 := Lib.hid (G1.out.trans (grown_below o1.out g2.out G1.out.size)); clear g2))
              all_goals
                go_roundw
                case rel =>
                  refine ⟨k + 1, by go_num, by omega, ?_, HB.out.trans (G2.out.mono HB.out.size)⟩
                  rw [HE1.out]
                  exact own_base o2.out HB.out.size
                case measure => simp [intOf]; omega
            · rcases Nat.eq_or_lt_of_le hcap with e3 | e3
              · subst e3
                go_wp2_with fail
                go_quiet (fail)
                have HBq := Lib.hid (bdrawn HB2.out nq)
                have HOq := Lib.hid (own_grown HO2.out (bdrawn (Below.refl wr.heap.size wr) nq) (Nat.le_refl _))
                have c0 : (wr.drewN nq).cell? _ = _ := ((bdrawn (Below.refl wr.heap.size wr) nq).cell (cell_lt c0)).trans c0
                generalize wr.drewN nq = wq at *
                have HYn : As (wq.alloc (.cells #[.int .u32 y] 24)) (some ⟨wq.heap.size, 0, none⟩) [y] := as_new wq [y] (isA_iff.2 (by intro u hu; simp at hu; subst hu; exact HR.out))
                have HYm := Lib.hid HYn
                clear HYn
                go_upto_region 13 with ((refine wpList_app_as rfl (.tmp 45) (.tmp 50) rfl w2.heap.size _ L.length (L.take L.length) rfl (HOq.out.alloc _) (by simp) (some ⟨wq.heap.size, 0, none⟩) 1 1 [y] rfl rfl HYm.out (fun e => by cases e) (by omega) (Nat.le_trans HBq.out.size (by rw [World.size_alloc]; omega)) ?_; intro a1 c1' wa o1 g1; have G1 := Lib.hid (HBq.out.trans (((Below.refl _ wq).alloc HBq.out.size _).trans (grown_below (HOq.out.alloc _) g1.out (Nat.le_trans HBq.out.size (by rw [World.size_alloc]; omega))))); clear g1))
                go_wp2_with (first | (refine wpList_app_as rfl (.tmp 52) (.tmp 55) rfl w2.heap.size _ (L.length + 1) (L.take L.length ++ [y]) rfl o1.out (by simp) _ _ _ [] rfl (by simp) (As.nil _ _) (fun e => by cases e) (by omega) G1.out.size ?_; intro a2 c2' wb o2 g2; have G2 := Lib.hid (G1.out.trans (grown_below o1.out g2.out G1.out.size)); clear g2))
                all_goals
                  go_roundw
                  case rel =>
                    refine ⟨k + 1, by go_num, by omega, ?_, HB.out.trans (G2.out.mono HB.out.size)⟩
                    rw [HE1.out]
                    have o3 := o2.out
                    simp only [List.append_nil, List.take_length, Nat.sub_self, Nat.add_zero] at o3
                    rw [List.length_append]
                    first
                    | exact own_base o3 HB.out.size
                    | (simp only [Nat.sub_self, Nat.add_zero]; exact own_base o3 HB.out.size)
                  case measure => simp [intOf]; omega
              · have hc3 : (L.length : Int) < (c3 : Int) := by omega
                go_wp2_with fail
                go_quiet (fail)
                have HBq := Lib.hid (bdrawn HB2.out nq)
                have HOq := Lib.hid (own_grown HO2.out (bdrawn (Below.refl wr.heap.size wr) nq) (Nat.le_refl _))
                have c0 : (wr.drewN nq).cell? _ = _ := ((bdrawn (Below.refl wr.heap.size wr) nq).cell (cell_lt c0)).trans c0
                generalize wr.drewN nq = wq at *
                have HYn : As (wq.alloc (.cells #[.int .u32 y] 24)) (some ⟨wq.heap.size, 0, none⟩) [y] := as_new wq [y] (isA_iff.2 (by intro u hu; simp at hu; subst hu; exact HR.out))
                have HYm := Lib.hid HYn
                clear HYn
                go_upto_region 13 with ((refine wpList_app_as rfl (.tmp 45) (.tmp 50) rfl w2.heap.size _ L.length (L.take L.length) rfl (HOq.out.alloc _) (by simp) (some ⟨wq.heap.size, 0, none⟩) 1 1 [y] rfl rfl HYm.out (fun e => by cases e) (by omega) (Nat.le_trans HBq.out.size (by rw [World.size_alloc]; omega)) ?_; intro a1 c1' wa o1 g1; have G1 := Lib.hid (HBq.out.trans (((Below.refl _ wq).alloc HBq.out.size _).trans (grown_below (HOq.out.alloc _) g1.out (Nat.le_trans HBq.out.size (by rw [World.size_alloc]; omega))))); clear g1))
                go_wp2_with (first | (refine wpList_app_as rfl (.tmp 52) (.tmp 55) rfl w2.heap.size _ (L.length + 1) (L.take L.length ++ [y]) rfl o1.out (by simp) _ _ _ [] rfl (by simp) (As.nil _ _) (fun e => by cases e) (by omega) G1.out.size ?_; intro a2 c2' wb o2 g2; have G2 := Lib.hid (G1.out.trans (grown_below o1.out g2.out G1.out.size)); clear g2))
                all_goals
                  go_roundw
                  case rel =>
                    refine ⟨k + 1, by go_num, by omega, ?_, HB.out.trans (G2.out.mono HB.out.size)⟩
                    rw [HE1.out]
                    have o3 := o2.out
                    simp only [List.append_nil, List.take_length, Nat.sub_self, Nat.add_zero] at o3
                    rw [List.length_append]
                    first
                    | exact own_base o3 HB.out.size
                    | (simp only [Nat.sub_self, Nat.add_zero]; exact own_base o3 HB.out.size)
                  case measure => simp [intOf]; omega
    · obtain rfl : k = n := by omega
      have htk : xs.take k = xs := List.take_of_length_le (by rw [HX.out]; exact Nat.le_refl _)
      have HO' := HO.out
      rw [htk] at HO'
      have HOo := Lib.hid HO'
      clear HO HO' htk
      go_wp2_with fail
      go_ret
      exact out_of HOo.out (mk_isA H1.out.2) HB.out
end Go.Proofs.Ytikanaabecmkcaa
