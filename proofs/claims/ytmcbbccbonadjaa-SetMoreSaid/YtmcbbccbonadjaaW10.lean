/- replaced: a host with other sockets in place of some. -/
import Derived.Test.YtmcbbccbonadjaaW0
import Derived.Test.YtmcbbccbonadjaaW1
import Derived.Test.YtmcbbccbonadjaaW2
import Derived.Test.YtmcbbccbonadjaaW3
import Derived.Test.YtmcbbccbonadjaaW4
import Derived.Test.YtmcbbccbonadjaaW5
import Derived.Test.YtmcbbccbonadjaaW6
import Derived.Test.YtmcbbccbonadjaaW7
import Derived.Test.YtmcbbccbonadjaaW8
import Derived.Test.YtmcbbccbonadjaaW9
namespace Go.Proofs.Ytmcbbccbonadjaa
set_option linter.unusedVariables false
open Go.RowKit

/-- A return whose first result lies in a variable. -/
theorem ret_cell3 {P : Program} {fn : Func} {R : Ending → World → Prop} {a : Act} {w : World} {p u v : Nat} {ty : TypeId} {q : Addr} {x : Value} (hr : fn.results = #[.cell p ty, .tmp u, .tmp v]) (hd : a.defers = []) (hp : a.tmps.getD p undef = .pointer (some q))
    (hl : (loadVar ty q).run P w = .ok x w) (hR : R (.returned (.tuple #[x, a.tmps.getD u undef, a.tmps.getD v undef])) w) : bodyPost P fn R .ret a w := by
  refine ⟨hd, _, ?_, hR⟩
  have hp' : a.tmps[p]?.getD undef = .pointer (some q) := by simpa using hp
  simp only [results, hr]
  simp [Result.andThen, asAddr, hp', hl]
theorem Sks.from {w : World} {a : Option Addr} {ss : List Sk} (h : Sks w a ss) (l : Nat) : Sks w (a.map fun x => x.add (l * 4)) (ss.drop l) := by
  rcases h with rfl | ⟨b, off, rfl, hc⟩
  · exact .inl (by simp)
  · have := Sks.drop (w := w) (b := b) (off := off) (ss := ss) (.inr ⟨b, off, rfl, hc⟩) l
    show Sks w (some ((⟨b, off, none⟩ : Addr).add (l * 4))) _
    rw [add_flat]; exact this
/-- A variable of a host, somewhere. -/
def HBx (w : World) (B : Nat) : Prop := ∃ x y z, w.heap[B]? = some (.cells #[.slice x y z] 36 (0, 0))
theorem HBx.num {w : World} {B : Nat} (h : HBx w B) : NoNum w B := by
  obtain ⟨x, y, z, h⟩ := h
  intro o v hv
  simp only [World.cell?, h] at hv
  match o with
  | 0 => simp at hv; subst hv; exact ⟨fun _ _ e => (by cases e), fun _ e => (by cases e)⟩
  | o + 1 => simp at hv
theorem HBx.cell {w : World} {B : Nat} {v : Value} (h : w.heap[B]? = some (.cells #[v] 36 (0, 0))) : w.cell? ⟨B, 0, none⟩ = some v := by simp [World.cell?, h]
theorem HBx.froz {w : World} {B : Nat} {v : Value} (h : w.heap[B]? = some (.cells #[v] 36 (0, 0))) : w.frozen? ⟨B, 0, none⟩ = false := by simp [World.frozen?, h]
theorem HBx.set {w : World} {B : Nat} {v : Value} (h : w.heap[B]? = some (.cells #[v] 36 (0, 0))) (u : Value) : (w.setCell ⟨B, 0, none⟩ u).heap[B]? = some (.cells #[u] 36 (0, 0)) := by simp [World.setCell, Array.getElem?_modify, h]
/-- The world goes on: new memory, or a store into the variable of a host. -/
def HTm (w w' : World) : Prop := Below w.heap.size w w' ∨ ∃ B, HBx w B ∧ But1 B w w'
theorem HTm.tm {w w' : World} (h : HTm w w') : Tm w w' := by
  rcases h with h | ⟨B, hx, hb⟩
  · exact .inl h
  · exact .inr ⟨B, hx.num, hb⟩
theorem rwsKeep {w w' : World} {p : Nat} {R : List Rw} (hr : HTm w w') (h : Rws w (some ⟨p, 0, none⟩) R ∧ ∃ cs, w.heap[p]? = some (.cells cs 34 (0, 0))) : Rws w' (some ⟨p, 0, none⟩) R ∧ ∃ cs, w'.heap[p]? = some (.cells cs 34 (0, 0)) := by
  obtain ⟨h, cs, hp⟩ := h
  have hbl : w'.heap[p]? = w.heap[p]? := by
    rcases hr with hr | ⟨B, ⟨x, y, z, hx⟩, hb⟩
    · exact hr.block _ (Array.getElem?_eq_some_iff.1 hp).1
    · refine hb.block _ (Array.getElem?_eq_some_iff.1 hp).1 ?_
      rintro rfl
      rw [hx] at hp
      simp at hp
  refine ⟨?_, cs, hbl.trans hp⟩
  rcases h with h | ⟨b, off, e, hc⟩
  · exact .inl h
  · cases e
    exact .inr ⟨_, _, rfl, fun k r hk => ⟨by rw [World.cell?_of_block (w := w) hbl]; exact (hc k r hk).1, (hc k r hk).2.1.tm hr.tm, (hc k r hk).2.2⟩⟩
theorem load_host {W : World} {N : Nat} {a : Option Addr} {n c : Nat} (h : W.heap[N]? = some (.cells #[.slice a n c] 36 (0, 0))) : (loadVar 36 ⟨N, 0, none⟩).run Try.prog W = .ok (.agg #[.slice a n c]) W := by
  have c0 := HBx.cell h
  clear h
  go_simp
/-- How an operation turns the world: J may store into the variable of a host. -/
def hR (N J j : Nat) (w w' : World) : Prop := (j = J ∨ Below w.heap.size w w') ∧ HTm w w' ∧ ∀ B, N ≤ B → HBx w B → HBx w' B
theorem hR_below {N J j : Nat} {w w' : World} (h : Below w.heap.size w w') : hR N J j w w' :=
  ⟨.inr h, .inl h, fun B _ ⟨x, y, z, e⟩ => ⟨x, y, z, (h.block _ (Array.getElem?_eq_some_iff.1 e).1).trans e⟩⟩
theorem hR_refl {N J : Nat} (j : Nat) (w : World) : hR N J j w w := hR_below (Below.refl _ _)
theorem hR_set {N J B : Nat} {w : World} {v : Value} (h : w.heap[B]? = some (.cells #[v] 36 (0, 0))) (hx : HBx w B) (a : Option Addr) (n c : Nat) : hR N J J w (w.setCell ⟨B, 0, none⟩ (.slice a n c)) := by
  refine ⟨.inl rfl, .inr ⟨B, hx, But1.set _ _ _ _⟩, fun B' _ ⟨x, y, z, e⟩ => ?_⟩
  by_cases e2 : B' = B
  · subst e2; exact ⟨_, _, _, HBx.set h _⟩
  · exact ⟨x, y, z, by rw [Below.heap_setCell _ ⟨B, 0, none⟩ _ B' e2]; exact e⟩
theorem rws3 {w : World} {r0 r1 r2 : Rw} (h0 : Sks w r0.2.1 r0.1 ∧ (r0.2.1 = none → r0.2.2 = 0)) (h1 : Sks w r1.2.1 r1.1 ∧ (r1.2.1 = none → r1.2.2 = 0)) (h2 : Sks w r2.2.1 r2.1 ∧ (r2.2.1 = none → r2.2.2 = 0)) :
    Rws (w.alloc (.cells #[.slice r0.2.1 r0.1.length r0.2.2, .slice r1.2.1 r1.1.length r1.2.2, .slice r2.2.1 r2.1.length r2.2.2] 34)) (some ⟨w.heap.size, 0, none⟩) [r0, r1, r2] := by
  have hN := Go.Deep.blk_alloc_new w (.cells #[.slice r0.2.1 r0.1.length r0.2.2, .slice r1.2.1 r1.1.length r1.2.2, .slice r2.2.1 r2.1.length r2.2.2] 34)
  refine .inr ⟨_, 0, rfl, fun j x hk => ?_⟩
  match j, hk with
  | 0, hk => cases hk; exact ⟨by simp only [World.cell?, hN]; rfl, h0.1.below (bel1 _ _), h0.2⟩
  | 1, hk => cases hk; exact ⟨by simp only [World.cell?, hN]; rfl, h1.1.below (bel1 _ _), h1.2⟩
  | 2, hk => cases hk; exact ⟨by simp only [World.cell?, hN]; rfl, h2.1.below (bel1 _ _), h2.2⟩
theorem HBx.drewN' {W : World} {B : Nat} (h : HBx W B) : HBx W.drew B := h
theorem hbx_of {w : World} {B : Nat} {a : Option Addr} {n c : Nat} (h : w.heap[B]? = some (.cells #[.slice a n c] 36 (0, 0))) : HBx w B := ⟨_, _, _, h⟩
theorem hboxB {w w' : World} {B : Nat} (hb : Below w.heap.size w w') (h : HBx w B) : HBx w' B := by
  obtain ⟨x, y, z, e⟩ := h
  exact ⟨x, y, z, (hb.block _ (Array.getElem?_eq_some_iff.1 e).1).trans e⟩
theorem hbut {w w' : World} {B : Nat} (h : w.heap[B]? = some (.cells #[.slice none 0 0] 36 (0, 0))) (hb : But1 B w w') : Tm w w' := .inr ⟨B, (hbx_of h).num, hb⟩
theorem fewS_nm {ss tt : List Sk} (h : ss.map Sk.nm = tt.map Sk.nm) (k : FewS tt) : FewS ss := by
  have hl : ss.length = tt.length := by have := congrArg List.length h; simpa using this
  refine ⟨by rw [hl]; exact k.1, fun s hs => ?_⟩
  have h1 : s.nm ∈ tt.map Sk.nm := h ▸ List.mem_map.2 ⟨s, hs, rfl⟩
  obtain ⟨t, ht, e⟩ := List.mem_map.1 h1
  have h2 : t.f.srcs = s.f.srcs := congrArg (fun z => z.f.srcs) e
  have := k.2 t ht
  rwa [h2] at this
/-- A host, what is said, and how it went. -/
def OutP (w : World) (e : Ending) (w' : World) (hs : List Sk) (R : List Rc) (er : Int) : Prop :=
  (∃ a c ss' b d rs, e = .returned (.tuple #[.agg #[.slice a (List.length ss') c], .slice b (List.length rs) d, .int .i64 er]) ∧ (ss'.map Sk.nm = hs.map Sk.nm ∧ Sks w' a ss' ∧ Flat a ss'.length c ∧ ss'.length ≤ c) ∧ rs.map Rc.nm = R.map Rc.nm ∧ Rcs w' b rs ∧ (b = none → d = 0)) ∧ Below w.heap.size w w'
def rpV (N k l : Nat) (a : Option Addr) (n c : Nat) (g : Int) (b : Option Addr) (m cb : Nat) (ss bs : List Sk) : Nat → Value → List Value → World → Prop
  | 0, v, _, _ => v = .pointer (some ⟨N, 0, none⟩)
  | 1, v, _, _ => v = .slice a n c
  | 2, v, _, _ => v = .int .i64 (k : Nat)
  | 3, v, _, _ => v = .slice a k c
  | 4, v, _, _ => v = .slice b m cb
  | 5, v, _, _ => v = .pointer (some ⟨N, 0, none⟩)
  | 6, v, _, _ => v = .slice a n c
  | 7, v, _, _ => v = .int .i64 (l : Nat)
  | 8, v, _, w => ∃ (a22 : Option Addr) (c22 : Nat), v = .slice a22 (n - l) c22 ∧ Sks w a22 (ss.drop l) ∧ (a22 = none → c22 = 0)
  | 9, v, _, w => ∃ (p23 : Nat) (R23 : List Rw), v = .slice (some ⟨p23, 0, none⟩) 3 3 ∧ (Rws w (some ⟨p23, 0, none⟩) R23 ∧ ∃ cs, w.heap[p23]? = some (.cells cs 34 (0, 0))) ∧ R23.length = 3 ∧ alls R23 = ss.take k ++ bs ++ ss.drop l
  | 10, v, _, w => ∃ (a24 : Option Addr) (c24 : Nat) (ss24 : List Sk), v = .agg #[.slice a24 (List.length ss24) c24] ∧ (ss24.map Sk.nm = (ss.take k ++ bs ++ ss.drop l).map Sk.nm ∧ Sks w a24 ss24 ∧ Flat a24 ss24.length c24 ∧ ss24.length ≤ c24)
  | 11, v, _, w => ∃ (B13 : Nat), v = .pointer (some ⟨B13, 0, none⟩) ∧ N + 2 ≤ B13 ∧ HBx w B13
  | 12, v, us, w => ∃ B x a24 n24 c24, us = [.pointer (some ⟨B, 0, none⟩), x] ∧ x = .agg #[.slice a24 n24 c24] ∧ N + 2 ≤ B ∧ w.heap[B]? = some (.cells #[.slice a24 n24 c24] 36 (0, 0))
  | _, _, _, _ => True
def rpD : Nat → List Nat
  | 1 => [0]
  | 3 => [1, 2]
  | 6 => [5]
  | 8 => [6, 7]
  | 9 => [3, 4, 8]
  | 10 => [9]
  | 12 => [11, 10]
  | _ => []
theorem rp_st (N k l : Nat) (a : Option Addr) (n c : Nat) (g : Int) (b : Option Addr) (m cb : Nat) (ss bs : List Sk) {i : Nat} {v : Value} {us : List Value} {w w' : World} {j : Nat} (hne : i ≠ j) (hr : hR (N + 2) 12 j w w') (hv : rpV N k l a n c g b m cb ss bs i v us w) : rpV N k l a n c g b m cb ss bs i v us w' := by
  unfold rpV at hv ⊢
  split at hv
  all_goals first
    | exact hv
    | (obtain ⟨a22, c22, e, k22, n22⟩ := hv; exact ⟨a22, c22, e, k22.tm hr.2.1.tm, n22⟩)
    | (obtain ⟨p23, R23, e, w23, q23⟩ := hv; exact ⟨p23, R23, e, rwsKeep hr.2.1 w23, q23⟩)
    | (obtain ⟨a24, c24, ss24, e, h24⟩ := hv; exact ⟨a24, c24, ss24, e, ⟨h24.1, h24.2.1.tm hr.2.1.tm, h24.2.2⟩⟩)
    | (obtain ⟨B13, e, b13, x13⟩ := hv; exact ⟨B13, e, b13, (hr.2.2 _ (by omega) x13)⟩)
    | (obtain ⟨B, x, a24, n24, c24, h1, h2, h3, h4⟩ := hv; rcases hr.1 with e | e; exact absurd e.symm hne; exact ⟨B, x, a24, n24, c24, h1, h2, h3, (e.block _ (Array.getElem?_eq_some_iff.1 h4).1).trans h4⟩)
def rqV (N B13 : Nat) (a : Option Addr) (n c : Nat) (g : Int) (a24 : Option Addr) (n24 c24 : Nat) (p1 p2 : Bool) (l1 l2 : List Int) : Nat → Value → List Value → World → Prop
  | 0, v, _, _ => v = .agg #[.slice a24 n24 c24]
  | 1, v, _, _ => v = .int .u32 g
  | 2, v, _, _ => v = .agg #[.slice a n c]
  | 3, v, _, _ => v = .int .u32 g
  | 4, v, _, w => ∃ (a29 : Option Addr) (c29 : Nat), v = .agg #[.bool p1, .slice a29 l1.length c29] ∧ As w a29 l1
  | 5, v, _, _ => v = .agg #[.slice a24 n24 c24]
  | 6, v, _, _ => v = .int .u32 g
  | 7, v, _, w => ∃ (a32 : Option Addr) (c32 : Nat), v = .agg #[.bool p2, .slice a32 l2.length c32] ∧ As w a32 l2 ∧ (a32 = none → c32 = 0)
  | 8, v, _, w => ∃ (b33 : Option Addr) (d33 : Nat) (rs33 : List Rc), v = .slice b33 (List.length rs33) d33 ∧ rs33.map Rc.nm = (change g p1 l1 p2 l2).map Rc.nm ∧ Rcs w b33 rs33 ∧ (b33 = none → d33 = 0)
  | 9, v, us, w => w.heap[N + 1]? = some (.cells #[.slice a24 n24 c24] 36 (0, 0))
  | 10, v, us, w => us = [v]
  | 11, v, _, _ => v = .int .i64 0
  | _, _, _, _ => True
def rqD : Nat → List Nat
  | 4 => [2, 3]
  | 7 => [5, 6]
  | 8 => [1, 4, 7]
  | 9 => [0]
  | 10 => [8]
  | _ => []
theorem rq_st (N B13 : Nat) (a : Option Addr) (n c : Nat) (g : Int) (a24 : Option Addr) (n24 c24 : Nat) (p1 p2 : Bool) (l1 l2 : List Int) {i : Nat} {v : Value} {us : List Value} {w w' : World} {j : Nat} (hne : i ≠ j) (hr : hR 0 9 j w w') (hv : rqV N B13 a n c g a24 n24 c24 p1 p2 l1 l2 i v us w) : rqV N B13 a n c g a24 n24 c24 p1 p2 l1 l2 i v us w' := by
  unfold rqV at hv ⊢
  split at hv
  all_goals first
    | exact hv
    | (obtain ⟨a29, c29, e, h29⟩ := hv; exact ⟨a29, c29, e, h29.tm hr.2.1.tm⟩)
    | (obtain ⟨a32, c32, e, h32, n32⟩ := hv; exact ⟨a32, c32, e, h32.tm hr.2.1.tm, n32⟩)
    | (obtain ⟨b33, d33, rs33, e, m33, k33, n33⟩ := hv; exact ⟨b33, d33, rs33, e, m33, k33.tm hr.2.1.tm, n33⟩)
    | (rcases hr.1 with e | e; exact absurd e.symm hne; exact (e.block _ (Array.getElem?_eq_some_iff.1 hv).1).trans hv)
set_option maxRecDepth 100000 in
set_option maxHeartbeats 16000000 in
theorem hReplaced (a : Option Addr) (n c k l : Nat) (g : Int) (b : Option Addr) (m cb : Nat) (ss bs : List Sk) (w : World) (hx : ss.length = n) (hnc : n ≤ c) (hni : a = none → c = 0) (hk : k ≤ n) (hl : l ≤ n) (hm : bs.length = m) (hnb : b = none → cb = 0)
    (hf1 : FewS ss) (hf2 : FewS (ss.take k ++ bs ++ ss.drop l)) (hS : Sks w a ss) (hB : Sks w b bs) :
    Calls Try.prog 49 #[.agg #[.slice a n c], .int .i64 k, .int .i64 l, .int .u32 g, .slice b m cb] w fun e w' => OutP w e w' (ss.take k ++ bs ++ ss.drop l) (change g (wants g ss).1 (wants g ss).2 (wants g (ss.take k ++ bs ++ ss.drop l)).1 (wants g (ss.take k ++ bs ++ ss.drop l)).2) 0 := by
  have HX := Lib.hid hx
  have HNC := Lib.hid hnc
  have HNI := Lib.hid hni
  have HKN := Lib.hid hk
  have HLN := Lib.hid hl
  have HM := Lib.hid hm
  have HNB := Lib.hid hnb
  have HF1 := Lib.hid hf1
  have HF2 := Lib.hid hf2
  have HAL : Hid ((ss.take k ++ bs ++ ss.drop l).length ≤ 100000 ∧ ∀ s ∈ ss.take k ++ bs ++ ss.drop l, s.f.srcs.length ≤ 100000) := Lib.hid ⟨by have := hf2.1; omega, fun s hs => by have := hf2.2 s hs; omega⟩
  have hb2 := bel2 w (.cells #[.slice a n c] 36) (.cells #[.slice none 0 0] 36)
  have HSK := Lib.hid (hS.below hb2)
  have HBK := Lib.hid (hB.below hb2)
  have HB2 := Lib.hid hb2
  have p0 := host_new w (.slice a n c)
  have hbx := Go.Deep.blk_alloc_new (w.alloc (.cells #[.slice a n c] 36)) (.cells #[.slice none 0 0] 36)
  rw [World.size_alloc] at hbx
  have CH := Lib.hid ((((bel1 (w.alloc (.cells #[.slice a n c] 36)) (.cells #[.slice none 0 0] 36)).cell (cell_lt p0)).trans p0))
  have HBX := Lib.hid hbx
  have hsz : ((w.alloc (.cells #[.slice a n c] 36)).alloc (.cells #[.slice none 0 0] 36)).heap.size = w.heap.size + 2 := by simp
  have HSZ := Lib.hid hsz
  clear hx hnc hni hk hl hm hnb hf1 hf2 hS hB hb2 p0 hbx hsz
  go_enter Try.func49, Try.ntmps49
  go_wp2_with fail
  generalize (w.alloc (.cells #[.slice a n c] 36)).alloc (.cells #[.slice none 0 0] 36) = w1 at *
  refine wp_region_each3 (rpV w.heap.size k l a n c g b m cb ss bs) (fun W => Below w1.heap.size w1 W) (hR (w.heap.size + 2) 12) rpD [14, 15, 16, 17, 18, 19, 20, 21, 22, 23, 24, 13] (by kernel_rfl) (by kernel_rfl) (by kernel_rfl) (Below.refl _ w1).drew
    (fun i j oi oj v us A B hoi hoj hij hw hSA hr hv => rp_st _ _ _ _ _ _ _ _ _ _ _ _ hij hr hv) ?hgd
    ⟨?_, ?_, ?_, ?_, ?_, ?_, ?_, ?_, ?_, ?_, ?_, ?_, ?_, trivial⟩ ?hend
  case hgd =>
    intro i o g b hoi hog v us w hv
    have hi : i < 13 := (Array.getElem?_eq_some_iff.1 hoi).1
    have hc : i = 0 ∨ i = 1 ∨ i = 2 ∨ i = 3 ∨ i = 4 ∨ i = 5 ∨ i = 6 ∨ i = 7 ∨ i = 8 ∨ i = 9 ∨ i = 10 ∨ i = 11 ∨ i = 12 := by omega
    rcases hc with rfl | rfl | rfl | rfl | rfl | rfl | rfl | rfl | rfl | rfl | rfl | rfl | rfl
    · cases hoi; cases hog
    · cases hoi; cases hog
    · cases hoi; cases hog
    · cases hoi; cases hog
    · cases hoi; cases hog
    · cases hoi; cases hog
    · cases hoi; cases hog
    · cases hoi; cases hog
    · cases hoi; cases hog
    · cases hoi; cases hog
    · cases hoi; cases hog
    · cases hoi; cases hog
    · cases hoi; cases hog
  case refine_1 =>
    intro a' w9 hS h0 hd
    have e5 : a'.tmps[5]?.getD undef = .pointer (some ⟨w.heap.size, 0, none⟩) := evG (h0 5 (by kernel_rfl))
    refine Does2.value (.pointer (some ⟨w.heap.size, 0, none⟩)) (w' := w9) ?_ ⟨rfl, hS, hR_refl _ _⟩
    clear hS h0 hd
    go_simp
  case refine_2 =>
    intro a' w9 hS h0 hd
    have e14 : a'.tmps[14]?.getD undef = .pointer (some ⟨w.heap.size, 0, none⟩) := evG (hd 0 List.mem_cons_self)
    have c0 := (hS.cell (cell_lt CH.out)).trans CH.out
    refine Does2.value (.slice a n c) (w' := w9) ?_ ⟨rfl, hS, hR_refl _ _⟩
    clear hS h0 hd
    go_simp
  case refine_3 =>
    intro a' w9 hS h0 hd
    have e1 : a'.tmps[1]?.getD undef = .int .i64 (k : Nat) := evG (h0 1 (by kernel_rfl))
    refine Does2.value (.int .i64 (k : Nat)) (w' := w9) ?_ ⟨rfl, hS, hR_refl _ _⟩
    clear hS h0 hd
    go_simp
  case refine_4 =>
    intro a' w9 hS h0 hd
    have e15 : a'.tmps[15]?.getD undef = .slice a n c := evG (hd 1 List.mem_cons_self)
    have e16 : a'.tmps[16]?.getD undef = .int .i64 (k : Nat) := evG (hd 2 (List.mem_cons_of_mem _ List.mem_cons_self))
    have hkn := HKN.out
    have hkc : k ≤ c := by have := HNC.out; omega
    refine Does2.value (.slice a k c) (w' := w9) ?_ ⟨rfl, hS, hR_refl _ _⟩
    clear hS h0 hd
    go_simp
  case refine_5 =>
    intro a' w9 hS h0 hd
    have e4 : a'.tmps[4]?.getD undef = .slice b m cb := evG (h0 4 (by kernel_rfl))
    refine Does2.value (.slice b m cb) (w' := w9) ?_ ⟨rfl, hS, hR_refl _ _⟩
    clear hS h0 hd
    go_simp
  case refine_6 =>
    intro a' w9 hS h0 hd
    have e5 : a'.tmps[5]?.getD undef = .pointer (some ⟨w.heap.size, 0, none⟩) := evG (h0 5 (by kernel_rfl))
    refine Does2.value (.pointer (some ⟨w.heap.size, 0, none⟩)) (w' := w9) ?_ ⟨rfl, hS, hR_refl _ _⟩
    clear hS h0 hd
    go_simp
  case refine_7 =>
    intro a' w9 hS h0 hd
    have e19 : a'.tmps[19]?.getD undef = .pointer (some ⟨w.heap.size, 0, none⟩) := evG (hd 5 List.mem_cons_self)
    have c0 := (hS.cell (cell_lt CH.out)).trans CH.out
    refine Does2.value (.slice a n c) (w' := w9) ?_ ⟨rfl, hS, hR_refl _ _⟩
    clear hS h0 hd
    go_simp
  case refine_8 =>
    intro a' w9 hS h0 hd
    have e2 : a'.tmps[2]?.getD undef = .int .i64 (l : Nat) := evG (h0 2 (by kernel_rfl))
    refine Does2.value (.int .i64 (l : Nat)) (w' := w9) ?_ ⟨rfl, hS, hR_refl _ _⟩
    clear hS h0 hd
    go_simp
  case refine_9 =>
    intro a' w9 hS h0 hd
    have e20 : a'.tmps[20]?.getD undef = .slice a n c := evG (hd 6 List.mem_cons_self)
    have e21 : a'.tmps[21]?.getD undef = .int .i64 (l : Nat) := evG (hd 7 (List.mem_cons_of_mem _ List.mem_cons_self))
    have hS' := hS
    have hl' := HLN.out
    by_cases hcl : c = l
    · have hnl : ss.drop l = [] := List.drop_eq_nil_of_le (by have := HX.out; have := HNC.out; omega)
      refine Does2.value (.slice a (n - l) (c - l)) (w' := w9) ?_ ⟨⟨a, c - l, rfl, .inl hnl, fun e => by have := HNI.out e; omega⟩, hS, hR_refl _ _⟩
      clear hS h0 hd
      go_simp
    · refine Does2.value (.slice (a.map fun x => x.add (l * 4)) (n - l) (c - l)) (w' := w9) ?_ ⟨⟨_, c - l, rfl, (HSK.out.below hS').from l, fun e => by have := HNI.out (by simpa using e); omega⟩, hS, hR_refl _ _⟩
      clear hS h0 hd
      go_simp
  case refine_10 =>
    intro a' w9 hS h0 hd
    have e17 : a'.tmps[17]?.getD undef = .slice a k c := evG (hd 3 List.mem_cons_self)
    have e18 : a'.tmps[18]?.getD undef = .slice b m cb := evG (hd 4 (List.mem_cons_of_mem _ List.mem_cons_self))
    obtain ⟨a22, c22, e22, k22, n22⟩ := hd 8 (List.mem_cons_of_mem _ (List.mem_cons_of_mem _ List.mem_cons_self))
    replace e22 := evG e22
    have hS' := hS
    have hkn := HKN.out
    have hl1 : (ss.take k).length = k := by rw [List.length_take]; have := HX.out; omega
    have hl2 : (ss.drop l).length = n - l := by rw [List.length_drop]; have := HX.out; omega
    have hrw := rws3 (r0 := (ss.take k, a, c)) (r1 := (bs, b, cb)) (r2 := (ss.drop l, a22, c22)) ⟨(HSK.out.below hS').take k, HNI.out⟩ ⟨HBK.out.below hS', HNB.out⟩ ⟨k22, n22⟩
    simp only [hl1, hl2, HM.out] at hrw
    refine Does2.value (.slice (some ⟨w9.heap.size, 0, none⟩) 3 3) (w' := w9.alloc (.cells #[.slice a k c, .slice b m cb, .slice a22 (n - l) c22] 34)) ?_ ⟨⟨_, _, rfl, ⟨hrw, _, Go.Deep.blk_alloc_new _ _⟩, rfl, by simp [alls]⟩, hS.alloc hS.size _, hR_below (bel1 w9 _)⟩
    clear hS h0 hd k22 hrw hS'
    go_simp
  case refine_11 =>
    intro a' w9 hS h0 hd
    obtain ⟨p23, R23, e23, w23, q23⟩ := hd 9 List.mem_cons_self
    replace e23 := evG e23
    refine Does2.call 48 #[.slice (some ⟨p23, 0, none⟩) 3 3] (w' := w9) ?_ ((hJoined _ 3 3 R23 w9 q23.1 (by omega) (by rw [q23.2]; exact HAL.out.1) (by rw [q23.2]; exact HAL.out.2) w23.1).mono ?_)
    · clear hS h0 hd w23
      go_simp
    · rintro e w8 ⟨⟨a8, c8, ss8, rfl, h8⟩, hb8⟩
      rw [q23.2] at h8
      exact ⟨_, rfl, ⟨a8, c8, ss8, rfl, h8⟩, hS.trans (hb8.mono hS.size), hR_below hb8⟩
  case refine_12 =>
    intro a' w9 hS h0 hd
    refine Does2.value (.pointer (some ⟨w9.heap.size, 0, none⟩)) (w' := w9.alloc (.cells #[.slice none 0 0] 36)) ?_ ⟨⟨_, rfl, by have := hS.size; have := HSZ.out; omega, ⟨_, _, _, Go.Deep.blk_alloc_new _ _⟩⟩, hS.alloc hS.size _, hR_below (bel1 w9 _)⟩
    clear hS h0 hd
    go_simp
  case refine_13 =>
    intro a' w9 hS h0 hd
    obtain ⟨B13, e13, b13, x13⟩ := hd 11 List.mem_cons_self
    replace e13 := evG e13
    obtain ⟨a24, c24, ss24, e24, h24⟩ := hd 10 (List.mem_cons_of_mem _ List.mem_cons_self)
    replace e24 := evG e24
    obtain ⟨x, y, z, hbx⟩ := x13
    have hc := HBx.cell hbx
    have hf := HBx.froz hbx
    refine Does2.skip (w' := w9.setCell ⟨B13, 0, none⟩ (.slice a24 ss24.length c24)) ?_ ⟨⟨B13, _, a24, ss24.length, c24, ?_, rfl, b13, HBx.set hbx _⟩, hS.setCell (p := ⟨B13, 0, none⟩) (by show w1.heap.size ≤ B13; have := HSZ.out; omega) _, hR_set hbx ⟨x, y, z, hbx⟩ _ _ _⟩
    · clear hS h0 hd h24 hbx
      go_simp
    · have q5 : a'.eval (.tmp 13) = .pointer (some ⟨B13, 0, none⟩) := by simp [Act.eval, e13]
      have q6 : a'.eval (.tmp 24) = .agg #[.slice a24 ss24.length c24] := by simp [Act.eval, e24]
      show [a'.eval (.tmp 13), a'.eval (.tmp 24)] = _
      rw [q5, q6]
  case hend =>
    intro f w2 hS hv
    obtain ⟨B13, v13, b13, x13⟩ := hv 11 (by decide)
    replace v13 : f 13 = .pointer (some ⟨B13, 0, none⟩) := v13
    obtain ⟨a24, c24, ss24, v24, h24⟩ := hv 10 (by decide)
    replace v24 : f 24 = .agg #[.slice a24 (List.length ss24) c24] := v24
    obtain ⟨B1, x1, a1, n1, c1, u12, u12b, hB1, hb1⟩ := hv 12 (by decide)
    replace u12 : [f 13, f 24] = [.pointer (some ⟨B1, 0, none⟩), x1] := u12
    rw [v13, v24, u12b] at u12
    simp only [List.cons.injEq, Value.pointer.injEq, Option.some.injEq, Addr.mk.injEq, Value.agg.injEq, Array.mk.injEq, Value.slice.injEq, and_true] at u12
    obtain ⟨rfl, rfl, rfl, rfl⟩ := u12
    simp only [putAll, Act.put, List.setIfInBounds_toArray, List.set_cons_zero, List.set_cons_succ, v13]
    have H24 := Lib.hid h24
    have C13 := Lib.hid (HBx.cell hb1)
    have HBB := Lib.hid b13
    have CH2 := Lib.hid ((hS.cell (cell_lt CH.out)).trans CH.out)
    have HBX2 := Lib.hid ((hS.block _ (Array.getElem?_eq_some_iff.1 HBX.out).1).trans HBX.out)
    have HW2 := Lib.hid (HB2.out.trans (hS.mono HB2.out.size))
    have HSK2 := Lib.hid (HSK.out.below hS)
    clear hv v13 v24 x13 h24 hb1 hS b13 hB1 u12b CH HBX HSK HBK HB2 HSZ
    have hwe := wants_eq (g := g) H24.out.1
    obtain ⟨⟨p1, l1⟩, hw1⟩ : ∃ p, wants g ss = p := ⟨_, rfl⟩
    obtain ⟨⟨p2, l2⟩, hw2⟩ : ∃ p, wants g (ss.take k ++ bs ++ ss.drop l) = p := ⟨_, rfl⟩
    have HWB := Lib.hid hw2
    rw [hw2] at hwe
    have hfl1 := flt_len (ofG_few (g := g) HF1.out)
    have hfl2 := flt_len (ofG_few (g := g) HF2.out)
    rw [show flt (ofG g ss) = (p1, l1) from hw1] at hfl1
    rw [show flt (ofG g (ss.take k ++ bs ++ ss.drop l)) = (p2, l2) from hw2] at hfl2
    replace hfl1 : l1.length ≤ 160000 := hfl1
    replace hfl2 : l2.length ≤ 160000 := hfl2
    have HW1 := Lib.hid hw1
    have HWE := Lib.hid hwe
    have HF24 : Hid (FewS ss24) := Lib.hid (fewS_nm H24.out.1 HF2.out)
    clear hw1 hw2 hwe
    go_wp2_with fail
    refine wp_region_each3 (rqV w.heap.size B13 a n c g a24 ss24.length c24 p1 p2 l1 l2) (fun W => But1 (w.heap.size + 1) w2 W ∧ HBx W (w.heap.size + 1)) (hR 0 9) rqD [25, 26, 27, 28, 29, 30, 31, 32, 33, 11, 12] (by kernel_rfl) (by kernel_rfl) (by kernel_rfl) ⟨But1.drewN (But1.refl _ w2) 1, (hbx_of HBX2.out)⟩
      (fun i j oi oj v us A B hoi hoj hij hw hSA hr hv => rq_st _ _ _ _ _ _ _ _ _ _ _ _ _ hij hr hv) ?hgd
      ⟨?_, ?_, ?_, ?_, ?_, ?_, ?_, ?_, ?_, ?_, ?_, ?_, trivial⟩ ?hend
    case hgd =>
      intro i o g b hoi hog v us w hv
      have hi : i < 12 := (Array.getElem?_eq_some_iff.1 hoi).1
      have hc : i = 0 ∨ i = 1 ∨ i = 2 ∨ i = 3 ∨ i = 4 ∨ i = 5 ∨ i = 6 ∨ i = 7 ∨ i = 8 ∨ i = 9 ∨ i = 10 ∨ i = 11 := by omega
      rcases hc with rfl | rfl | rfl | rfl | rfl | rfl | rfl | rfl | rfl | rfl | rfl | rfl
      · cases hoi; cases hog
      · cases hoi; cases hog
      · cases hoi; cases hog
      · cases hoi; cases hog
      · cases hoi; cases hog
      · cases hoi; cases hog
      · cases hoi; cases hog
      · cases hoi; cases hog
      · cases hoi; cases hog
      · cases hoi; cases hog
      · cases hoi; cases hog
      · cases hoi; cases hog
    case refine_1 =>
      intro a' w9 hS h0 hd
      have e13 : a'.tmps[13]?.getD undef = .pointer (some ⟨B13, 0, none⟩) := evG (h0 13 (by kernel_rfl))
      have c0 := (hS.1.cell (cell_lt C13.out) (by show B13 ≠ _; have := HBB.out; omega)).trans C13.out
      refine Does2.value (.agg #[.slice a24 ss24.length c24]) (w' := w9) ?_ ⟨rfl, hS, hR_refl _ _⟩
      clear hS h0 hd
      go_simp
    case refine_2 =>
      intro a' w9 hS h0 hd
      have e3 : a'.tmps[3]?.getD undef = .int .u32 g := evG (h0 3 (by kernel_rfl))
      refine Does2.value (.int .u32 g) (w' := w9) ?_ ⟨rfl, hS, hR_refl _ _⟩
      clear hS h0 hd
      go_simp
    case refine_3 =>
      intro a' w9 hS h0 hd
      have e5 : a'.tmps[5]?.getD undef = .pointer (some ⟨w.heap.size, 0, none⟩) := evG (h0 5 (by kernel_rfl))
      have c0 := (hS.1.cell (cell_lt CH2.out) (by show w.heap.size ≠ _; omega)).trans CH2.out
      refine Does2.value (.agg #[.slice a n c]) (w' := w9) ?_ ⟨rfl, hS, hR_refl _ _⟩
      clear hS h0 hd
      go_simp
    case refine_4 =>
      intro a' w9 hS h0 hd
      have e3 : a'.tmps[3]?.getD undef = .int .u32 g := evG (h0 3 (by kernel_rfl))
      refine Does2.value (.int .u32 g) (w' := w9) ?_ ⟨rfl, hS, hR_refl _ _⟩
      clear hS h0 hd
      go_simp
    case refine_5 =>
      intro a' w9 hS h0 hd
      have e27 : a'.tmps[27]?.getD undef = .agg #[.slice a n c] := evG (hd 2 List.mem_cons_self)
      have e28 : a'.tmps[28]?.getD undef = .int .u32 g := evG (hd 3 (List.mem_cons_of_mem _ List.mem_cons_self))
      refine Does2.call 32 #[.agg #[.slice a n c], .int .u32 g] (w' := w9) ?_ ((hWants a n c ss g w9 HX.out HF1.out (HSK2.out.tm (hbut HBX2.out hS.1))).mono ?_)
      · clear hS h0 hd
        go_simp
      · rw [HW1.out]
        rintro e w8 ⟨⟨a8, c8, rfl, hA8, hf8⟩, hb8⟩
        exact ⟨_, rfl, ⟨a8, c8, rfl, hA8⟩, ⟨hS.1.trans (But1.of_below hb8), hboxB hb8 hS.2⟩, hR_below hb8⟩
    case refine_6 =>
      intro a' w9 hS h0 hd
      have e13 : a'.tmps[13]?.getD undef = .pointer (some ⟨B13, 0, none⟩) := evG (h0 13 (by kernel_rfl))
      have c0 := (hS.1.cell (cell_lt C13.out) (by show B13 ≠ _; have := HBB.out; omega)).trans C13.out
      refine Does2.value (.agg #[.slice a24 ss24.length c24]) (w' := w9) ?_ ⟨rfl, hS, hR_refl _ _⟩
      clear hS h0 hd
      go_simp
    case refine_7 =>
      intro a' w9 hS h0 hd
      have e3 : a'.tmps[3]?.getD undef = .int .u32 g := evG (h0 3 (by kernel_rfl))
      refine Does2.value (.int .u32 g) (w' := w9) ?_ ⟨rfl, hS, hR_refl _ _⟩
      clear hS h0 hd
      go_simp
    case refine_8 =>
      intro a' w9 hS h0 hd
      have e30 : a'.tmps[30]?.getD undef = .agg #[.slice a24 ss24.length c24] := evG (hd 5 List.mem_cons_self)
      have e31 : a'.tmps[31]?.getD undef = .int .u32 g := evG (hd 6 (List.mem_cons_of_mem _ List.mem_cons_self))
      refine Does2.call 32 #[.agg #[.slice a24 ss24.length c24], .int .u32 g] (w' := w9) ?_ ((hWants a24 ss24.length c24 ss24 g w9 rfl HF24.out (H24.out.2.1.tm (hbut HBX2.out hS.1))).mono ?_)
      · clear hS h0 hd
        go_simp
      · rw [HWE.out]
        rintro e w8 ⟨⟨a8, c8, rfl, hA8, hf8⟩, hb8⟩
        exact ⟨_, rfl, ⟨a8, c8, rfl, hA8, flat_nil' hf8⟩, ⟨hS.1.trans (But1.of_below hb8), hboxB hb8 hS.2⟩, hR_below hb8⟩
    case refine_9 =>
      intro a' w9 hS h0 hd
      have e26 : a'.tmps[26]?.getD undef = .int .u32 g := evG (hd 1 List.mem_cons_self)
      obtain ⟨a29, c29, e29, h29⟩ := hd 4 (List.mem_cons_of_mem _ List.mem_cons_self)
      replace e29 := evG e29
      obtain ⟨a32, c32, e32, h32, n32⟩ := hd 7 (List.mem_cons_of_mem _ (List.mem_cons_of_mem _ List.mem_cons_self))
      replace e32 := evG e32
      refine Does2.call 26 #[.int .u32 g, .agg #[.bool p1, .slice a29 l1.length c29], .agg #[.bool p2, .slice a32 l2.length c32]] (w' := w9) ?_ ((hChange g p1 p2 a29 a32 _ _ c29 c32 l1 l2 w9 rfl rfl (by omega) (by omega) h29 h32 n32).mono ?_)
      · clear hS h0 hd h29 h32
        go_simp
      · rintro e w8 ⟨⟨a8, c8, rs8, rfl, m8, k8, n8⟩, hb8⟩
        exact ⟨_, rfl, ⟨a8, c8, rs8, rfl, m8, k8, n8⟩, ⟨hS.1.trans (But1.of_below hb8), hboxB hb8 hS.2⟩, hR_below hb8⟩
    case refine_10 =>
      intro a' w9 hS h0 hd
      have e10 : a'.tmps[10]?.getD undef = .pointer (some ⟨w.heap.size + 1, 0, none⟩) := evG (h0 10 (by kernel_rfl))
      have e25 : a'.tmps[25]?.getD undef = .agg #[.slice a24 ss24.length c24] := evG (hd 0 List.mem_cons_self)
      obtain ⟨x, y, z, hbx⟩ := hS.2
      have hc := HBx.cell hbx
      have hf := HBx.froz hbx
      refine Does2.skip (w' := w9.setCell ⟨w.heap.size + 1, 0, none⟩ (.slice a24 ss24.length c24)) ?_ ⟨HBx.set hbx _, ⟨hS.1.trans (But1.set _ _ _ _), ⟨_, _, _, HBx.set hbx _⟩⟩, hR_set hbx ⟨x, y, z, hbx⟩ _ _ _⟩
      clear hS h0 hd hbx
      go_simp
    case refine_11 =>
      intro a' w9 hS h0 hd
      obtain ⟨b33, d33, rs33, e33, m33, k33, n33⟩ := hd 8 List.mem_cons_self
      replace e33 := evG e33
      have q5 : a'.eval (.tmp 33) = .slice b33 (List.length rs33) d33 := by simp [Act.eval, e33]
      refine Does2.value (.slice b33 (List.length rs33) d33) (w' := w9) ?_ ⟨?_, hS, hR_refl _ _⟩
      · clear hS h0 hd k33 q5
        go_simp
      · show [a'.eval (.tmp 33)] = [Value.slice b33 (List.length rs33) d33]
        rw [q5]
    case refine_12 =>
      intro a' w9 hS h0 hd
      refine Does2.value (.int .i64 0) (w' := w9) ?_ ⟨rfl, hS, hR_refl _ _⟩
      clear hS h0 hd
      go_simp
    case hend =>
      intro f2 w3 hS hv
      obtain ⟨b33, d33, rs33, v33, m33, k33, n33⟩ := hv 8 (by decide)
      replace v33 : f2 33 = .slice b33 (List.length rs33) d33 := v33
      have v11 : [f2 33] = [f2 11] := hv 10 (by decide)
      rw [v33] at v11
      replace v11 : f2 11 = .slice b33 (List.length rs33) d33 := by simpa using v11.symm
      have v12 := hv 11 (by decide)
      replace v12 : f2 12 = .int .i64 0 := v12
      have h9 := hv 9 (by decide)
      replace h9 : w3.heap[w.heap.size + 1]? = some (.cells #[.slice a24 ss24.length c24] 36 (0, 0)) := h9
      simp only [putAll, Act.put, List.setIfInBounds_toArray, List.set_cons_zero, List.set_cons_succ, v11, v12]
      have HL := Lib.hid (load_host h9)
      have M33 := Lib.hid m33
      have K33 := Lib.hid k33
      have N33 := Lib.hid n33
      have HS3 := Lib.hid hS.1
      clear hS hv v33 v11 v12 h9 m33 k33 n33
      go_wp2_with fail
      refine ret_cell3 (p := 10) (u := 11) (v := 12) rfl rfl rfl HL.out ?_
      rw [HW1.out, HWB.out]
      exact ⟨⟨a24, c24, ss24, b33, d33, rs33, rfl, ⟨H24.out.1, H24.out.2.1.tm (hbut HBX2.out HS3.out), H24.out.2.2⟩, M33.out, K33.out, N33.out⟩, HW2.out.trans (HS3.out.below (by omega) (by have := HW2.out.size; omega))⟩
end Go.Proofs.Ytmcbbccbonadjaa
/- Put: a host with a socket more, or another one. -/
namespace Go.Proofs.Ytmcbbccbonadjaa
set_option linter.unusedVariables false
open Go.RowKit

theorem rws1 {w : World} {r0 : Rw} (h0 : Sks w r0.2.1 r0.1 ∧ (r0.2.1 = none → r0.2.2 = 0)) :
    Rws (w.alloc (.cells #[.slice r0.2.1 r0.1.length r0.2.2] 34)) (some ⟨w.heap.size, 0, none⟩) [r0] := by
  have hN := Go.Deep.blk_alloc_new w (.cells #[.slice r0.2.1 r0.1.length r0.2.2] 34)
  refine .inr ⟨_, 0, rfl, fun j x hk => ?_⟩
  match j, hk with
  | 0, hk => cases hk; exact ⟨by simp only [World.cell?, hN]; rfl, h0.1.below (bel1 _ _), h0.2⟩
theorem sks_new1 {w : World} {s : Sk} (h : FOk w s.f) (hg : 0 ≤ s.g ∧ s.g ≤ 4294967295) : Sks (w.alloc (.cells #[.int .i64 s.id, .int .u32 s.g, .bool s.f.ex, s.f.sl] 38)) (some ⟨w.heap.size, 0, none⟩) [s] := by
  obtain ⟨c0, c1, c2, c3⟩ := sock_new w (.int .i64 s.id) (.int .u32 s.g) (.bool s.f.ex) s.f.sl
  refine .inr ⟨_, 0, rfl, fun j x hk => ?_⟩
  match j, hk with
  | 0, hk => cases hk; exact ⟨⟨c0, c1, c2, c3⟩, h.below (bel1 _ _), hg⟩
/-- How putting a socket goes, and the host behind it. -/
def putE (ss : List Sk) (s : Sk) : Int :=
  if ¬ okS s then 1 else if ss.any (fun t => (t.id == s.id) && (t.g != s.g)) then 1 else if ss.all (fun t => t.id != s.id) && decide (32 ≤ ss.length) then 7 else 0
def putL (ss : List Sk) (s : Sk) : List Sk := lt' s.id ss ++ [s] ++ gt' s.id ss
theorem lt_len (i : Int) (ss : List Sk) : (lt' i ss).length ≤ ss.length := List.length_filter_le _ _
theorem putL_few {ss : List Sk} {s : Sk} (hr : Ris ss) (h : FewS ss) (hn : ss.length ≤ 399) (hs : s.f.srcs.length ≤ 400) : FewS (putL ss s) := by
  refine ⟨?_, fun t ht => ?_⟩
  · unfold putL
    have h1 : (lt' s.id ss).length + (gt' s.id ss).length ≤ ss.length := by
      unfold lt' gt'
      rw [← List.countP_eq_length_filter, ← List.countP_eq_length_filter]
      clear hr h hn hs
      induction ss with
      | nil => simp
      | cons x r ih =>
        simp only [List.countP_cons, List.length_cons]
        by_cases h1 : x.id < s.id
        · have h2 : ¬ s.id < x.id := by omega
          simp [h1, h2]; omega
        · by_cases h2 : s.id < x.id
          · simp [h1, h2]; omega
          · simp [h1, h2]; omega
    simp only [List.length_append, List.length_cons, List.length_nil]
    omega
  · unfold putL at ht
    rcases List.mem_append.1 ht with h1 | h1
    · rcases List.mem_append.1 h1 with h2 | h2
      · exact h.2 t (List.mem_filter.1 h2).1
      · simp at h2; subst h2; exact hs
    · exact h.2 t (List.mem_filter.1 h1).1
theorem put_no {ss : List Sk} {s : Sk} (h : ¬ okS s) : putE ss s = 1 := by unfold putE; rw [if_pos h]
theorem put_grp {ss : List Sk} {s t : Sk} (hk : okS s) (ht : t ∈ ss) (h1 : t.id = s.id) (h2 : t.g ≠ s.g) : putE ss s = 1 := by
  unfold putE
  rw [if_neg (fun h => h hk), if_pos (List.any_eq_true.2 ⟨t, ht, by simp [h1, h2]⟩)]
theorem put_full {ss : List Sk} {s : Sk} (hk : okS s) (h1 : ∀ t ∈ ss, t.id ≠ s.id) (h2 : 32 ≤ ss.length) : putE ss s = 7 := by
  unfold putE
  rw [if_neg (fun h => h hk), if_neg (fun h => by obtain ⟨t, ht, e⟩ := List.any_eq_true.1 h; simp at e; exact h1 t ht e.1), if_pos (by simp only [Bool.and_eq_true, List.all_eq_true, decide_eq_true_eq]; exact ⟨fun t ht => by simpa using h1 t ht, h2⟩)]
theorem put_new {ss : List Sk} {s : Sk} (hk : okS s) (h1 : ∀ t ∈ ss, t.id ≠ s.id) (h2 : ¬ 32 ≤ ss.length) : putE ss s = 0 := by
  unfold putE
  rw [if_neg (fun h => h hk), if_neg (fun h => by obtain ⟨t, ht, e⟩ := List.any_eq_true.1 h; simp at e; exact h1 t ht e.1), if_neg (by simp only [Bool.and_eq_true, decide_eq_true_eq]; exact fun h => h2 h.2)]
theorem ris_inj {ss : List Sk} (hr : Ris ss) {t u : Sk} (ht : t ∈ ss) (hu : u ∈ ss) (h : t.id = u.id) : t = u := by
  induction ss with
  | nil => cases ht
  | cons x r ih =>
    unfold Ris at hr ih
    rw [List.pairwise_cons] at hr
    rcases List.mem_cons.1 ht with rfl | ht'
    · rcases List.mem_cons.1 hu with rfl | hu'
      · rfl
      · have := hr.1 u hu'; omega
    · rcases List.mem_cons.1 hu with rfl | hu'
      · have := hr.1 t ht'; omega
      · exact ih hr.2 ht' hu'
theorem put_old {ss : List Sk} {s t : Sk} (hr : Ris ss) (hk : okS s) (ht : t ∈ ss) (h1 : t.id = s.id) (h2 : t.g = s.g) : putE ss s = 0 := by
  unfold putE
  rw [if_neg (fun h => h hk), if_neg (fun h => by
    obtain ⟨u, hu, e⟩ := List.any_eq_true.1 h
    simp at e
    have := ris_inj hr hu ht (by omega)
    subst this
    exact e.2 h2), if_neg (by
    simp only [Bool.and_eq_true, List.all_eq_true]
    intro h
    have := h.1 t ht
    simp at this
    exact this h1)]
/-- What putting a socket says. -/
def putR (ss : List Sk) (s : Sk) : List Rc := change s.g (wants s.g ss).1 (wants s.g ss).2 (wants s.g (putL ss s)).1 (wants s.g (putL ss s)).2
def putH (ss : List Sk) (s : Sk) : List Sk := if putE ss s = 0 then putL ss s else ss
def putS (ss : List Sk) (s : Sk) : List Rc := if putE ss s = 0 then putR ss s else []
theorem putH_no {ss : List Sk} {s : Sk} (h : putE ss s ≠ 0) : putH ss s = ss ∧ putS ss s = [] := ⟨if_neg h, if_neg h⟩
theorem putH_yes {ss : List Sk} {s : Sk} (h : putE ss s = 0) : putH ss s = putL ss s ∧ putS ss s = putR ss s := ⟨if_pos h, if_pos h⟩
def pnNV (N : Nat) (a : Option Addr) (b off n c k : Nat) (id g : Int) (ex : Bool) (fa : Option Addr) (sn fc : Nat) (tg : Int) : Nat → Value → List Value → World → Prop
  | 0, v, _, _ => v = .agg #[.int .i64 id, .int .u32 g, .bool ex, .slice fa sn fc]
  | 1, v, _, _ => v = .bool false
  | 2, v, _, _ => v = .bool true
  | 3, v, _, _ => v = .bool true
  | 4, v, _, _ => v = undef
  | 5, v, _, _ => v = undef
  | 6, v, _, _ => v = undef
  | 7, v, _, _ => v = undef
  | 8, v, _, _ => v = undef
  | 9, v, _, _ => v = undef
  | 10, v, _, _ => v = undef
  | 11, v, _, _ => v = undef
  | 12, v, _, _ => v = undef
  | 13, v, _, _ => v = undef
  | 14, v, _, _ => v = undef
  | 15, v, _, _ => v = undef
  | 16, v, _, _ => v = undef
  | 17, v, _, _ => v = .bool true
  | _, _, _, _ => True
def pnND : Nat → List Nat
  | 1 => [0]
  | 2 => [1]
  | 3 => [2]
  | 4 => [3]
  | 5 => [4, 3]
  | 6 => [5, 3]
  | 7 => [6]
  | 8 => [7, 6]
  | 9 => [6]
  | 10 => [8, 9, 6]
  | 11 => [10, 6]
  | 12 => [11, 6]
  | 13 => [6]
  | 14 => [13, 6]
  | 15 => [12, 14, 6]
  | 16 => [6, 15, 3]
  | 17 => [3, 16]
  | _ => []
def pnNN (i : Nat) : Bool := !([4, 5, 6, 7, 8, 9, 10, 11, 12, 13, 14, 15, 16] : List Nat).contains i
theorem pnN_st (N : Nat) (a : Option Addr) (b off n c k : Nat) (id g : Int) (ex : Bool) (fa : Option Addr) (sn fc : Nat) (tg : Int) {i : Nat} {v : Value} {us : List Value} {w w' : World}  (hr : True) (hv : pnNV N a b off n c k id g ex fa sn fc tg i v us w) : pnNV N a b off n c k id g ex fa sn fc tg i v us w' := by
  unfold pnNV at hv ⊢
  split at hv
  all_goals first
    | exact hv
def pnZV (N : Nat) (a : Option Addr) (b off n c k : Nat) (id g : Int) (ex : Bool) (fa : Option Addr) (sn fc : Nat) (tg : Int) : Nat → Value → List Value → World → Prop
  | 0, v, _, _ => v = .agg #[.int .i64 id, .int .u32 g, .bool ex, .slice fa sn fc]
  | 1, v, _, _ => v = .bool true
  | 2, v, _, _ => v = .bool false
  | 3, v, _, _ => v = .bool false
  | 4, v, _, _ => v = .bool true
  | 5, v, _, _ => v = .bool false
  | 6, v, _, _ => v = .bool false
  | 7, v, _, _ => v = undef
  | 8, v, _, _ => v = undef
  | 9, v, _, _ => v = undef
  | 10, v, _, _ => v = undef
  | 11, v, _, _ => v = undef
  | 12, v, _, _ => v = undef
  | 13, v, _, _ => v = undef
  | 14, v, _, _ => v = undef
  | 15, v, _, _ => v = undef
  | 16, v, _, _ => v = .bool false
  | 17, v, _, _ => v = .bool false
  | _, _, _, _ => True
def pnZD : Nat → List Nat
  | 1 => [0]
  | 2 => [1]
  | 3 => [2]
  | 4 => [3]
  | 5 => [4, 3]
  | 6 => [5, 3]
  | 7 => [6]
  | 8 => [7, 6]
  | 9 => [6]
  | 10 => [8, 9, 6]
  | 11 => [10, 6]
  | 12 => [11, 6]
  | 13 => [6]
  | 14 => [13, 6]
  | 15 => [12, 14, 6]
  | 16 => [6, 15, 3]
  | 17 => [3, 16]
  | _ => []
def pnZN (i : Nat) : Bool := !([7, 8, 9, 10, 11, 12, 13, 14, 15] : List Nat).contains i
theorem pnZ_st (N : Nat) (a : Option Addr) (b off n c k : Nat) (id g : Int) (ex : Bool) (fa : Option Addr) (sn fc : Nat) (tg : Int) {i : Nat} {v : Value} {us : List Value} {w w' : World}  (hr : True) (hv : pnZV N a b off n c k id g ex fa sn fc tg i v us w) : pnZV N a b off n c k id g ex fa sn fc tg i v us w' := by
  unfold pnZV at hv ⊢
  split at hv
  all_goals first
    | exact hv
def pnOV (N : Nat) (a : Option Addr) (b off n c k : Nat) (id g : Int) (ex : Bool) (fa : Option Addr) (sn fc : Nat) (tg : Int) : Nat → Value → List Value → World → Prop
  | 0, v, _, _ => v = .agg #[.int .i64 id, .int .u32 g, .bool ex, .slice fa sn fc]
  | 1, v, _, _ => v = .bool false
  | 2, v, _, _ => v = .bool true
  | 3, v, _, _ => v = .bool true
  | 4, v, _, _ => v = undef
  | 5, v, _, _ => v = undef
  | 6, v, _, _ => v = undef
  | 7, v, _, _ => v = undef
  | 8, v, _, _ => v = undef
  | 9, v, _, _ => v = undef
  | 10, v, _, _ => v = undef
  | 11, v, _, _ => v = undef
  | 12, v, _, _ => v = undef
  | 13, v, _, _ => v = undef
  | 14, v, _, _ => v = undef
  | 15, v, _, _ => v = undef
  | 16, v, _, _ => v = undef
  | 17, v, _, _ => v = .bool true
  | _, _, _, _ => True
def pnOD : Nat → List Nat
  | 1 => [0]
  | 2 => [1]
  | 3 => [2]
  | 4 => [3]
  | 5 => [4, 3]
  | 6 => [5, 3]
  | 7 => [6]
  | 8 => [7, 6]
  | 9 => [6]
  | 10 => [8, 9, 6]
  | 11 => [10, 6]
  | 12 => [11, 6]
  | 13 => [6]
  | 14 => [13, 6]
  | 15 => [12, 14, 6]
  | 16 => [6, 15, 3]
  | 17 => [3, 16]
  | _ => []
def pnON (i : Nat) : Bool := !([4, 5, 6, 7, 8, 9, 10, 11, 12, 13, 14, 15, 16] : List Nat).contains i
theorem pnO_st (N : Nat) (a : Option Addr) (b off n c k : Nat) (id g : Int) (ex : Bool) (fa : Option Addr) (sn fc : Nat) (tg : Int) {i : Nat} {v : Value} {us : List Value} {w w' : World}  (hr : True) (hv : pnOV N a b off n c k id g ex fa sn fc tg i v us w) : pnOV N a b off n c k id g ex fa sn fc tg i v us w' := by
  unfold pnOV at hv ⊢
  split at hv
  all_goals first
    | exact hv
def pnYV (N : Nat) (a : Option Addr) (b off n c k : Nat) (id g : Int) (ex : Bool) (fa : Option Addr) (sn fc : Nat) (tg : Int) : Nat → Value → List Value → World → Prop
  | 0, v, _, _ => v = .agg #[.int .i64 id, .int .u32 g, .bool ex, .slice fa sn fc]
  | 1, v, _, _ => v = .bool true
  | 2, v, _, _ => v = .bool false
  | 3, v, _, _ => v = .bool false
  | 4, v, _, _ => v = .bool false
  | 5, v, _, _ => v = .bool true
  | 6, v, _, _ => v = .bool true
  | 7, v, _, _ => v = .pointer (some ⟨N, 0, none⟩)
  | 8, v, _, _ => v = .slice (some ⟨b, off, none⟩) n c
  | 9, v, _, _ => v = .int .i64 (k : Nat)
  | 10, v, _, _ => v = .pointer (some ⟨b, off + k * 4, none⟩)
  | 11, v, _, _ => v = .pointer (some ⟨b, off + k * 4 + 1, none⟩)
  | 12, v, _, _ => v = .int .u32 tg
  | 13, v, _, _ => v = .pointer (some ⟨N + 1, 1, none⟩)
  | 14, v, _, _ => v = .int .u32 g
  | 15, v, _, _ => v = .bool false
  | 16, v, _, _ => v = .bool false
  | 17, v, _, _ => v = .bool false
  | _, _, _, _ => True
def pnYD : Nat → List Nat
  | 1 => [0]
  | 2 => [1]
  | 3 => [2]
  | 4 => [3]
  | 5 => [4, 3]
  | 6 => [5, 3]
  | 7 => [6]
  | 8 => [7, 6]
  | 9 => [6]
  | 10 => [8, 9, 6]
  | 11 => [10, 6]
  | 12 => [11, 6]
  | 13 => [6]
  | 14 => [13, 6]
  | 15 => [12, 14, 6]
  | 16 => [6, 15, 3]
  | 17 => [3, 16]
  | _ => []
theorem pnY_st (N : Nat) (a : Option Addr) (b off n c k : Nat) (id g : Int) (ex : Bool) (fa : Option Addr) (sn fc : Nat) (tg : Int) {i : Nat} {v : Value} {us : List Value} {w w' : World}  (hr : True) (hv : pnYV N a b off n c k id g ex fa sn fc tg i v us w) : pnYV N a b off n c k id g ex fa sn fc tg i v us w' := by
  unfold pnYV at hv ⊢
  split at hv
  all_goals first
    | exact hv
def pnXV (N : Nat) (a : Option Addr) (b off n c k : Nat) (id g : Int) (ex : Bool) (fa : Option Addr) (sn fc : Nat) (tg : Int) : Nat → Value → List Value → World → Prop
  | 0, v, _, _ => v = .agg #[.int .i64 id, .int .u32 g, .bool ex, .slice fa sn fc]
  | 1, v, _, _ => v = .bool true
  | 2, v, _, _ => v = .bool false
  | 3, v, _, _ => v = .bool false
  | 4, v, _, _ => v = .bool false
  | 5, v, _, _ => v = .bool true
  | 6, v, _, _ => v = .bool true
  | 7, v, _, _ => v = .pointer (some ⟨N, 0, none⟩)
  | 8, v, _, _ => v = .slice (some ⟨b, off, none⟩) n c
  | 9, v, _, _ => v = .int .i64 (k : Nat)
  | 10, v, _, _ => v = .pointer (some ⟨b, off + k * 4, none⟩)
  | 11, v, _, _ => v = .pointer (some ⟨b, off + k * 4 + 1, none⟩)
  | 12, v, _, _ => v = .int .u32 tg
  | 13, v, _, _ => v = .pointer (some ⟨N + 1, 1, none⟩)
  | 14, v, _, _ => v = .int .u32 g
  | 15, v, _, _ => v = .bool true
  | 16, v, _, _ => v = .bool true
  | 17, v, _, _ => v = .bool true
  | _, _, _, _ => True
def pnXD : Nat → List Nat
  | 1 => [0]
  | 2 => [1]
  | 3 => [2]
  | 4 => [3]
  | 5 => [4, 3]
  | 6 => [5, 3]
  | 7 => [6]
  | 8 => [7, 6]
  | 9 => [6]
  | 10 => [8, 9, 6]
  | 11 => [10, 6]
  | 12 => [11, 6]
  | 13 => [6]
  | 14 => [13, 6]
  | 15 => [12, 14, 6]
  | 16 => [6, 15, 3]
  | 17 => [3, 16]
  | _ => []
theorem pnX_st (N : Nat) (a : Option Addr) (b off n c k : Nat) (id g : Int) (ex : Bool) (fa : Option Addr) (sn fc : Nat) (tg : Int) {i : Nat} {v : Value} {us : List Value} {w w' : World}  (hr : True) (hv : pnXV N a b off n c k id g ex fa sn fc tg i v us w) : pnXV N a b off n c k id g ex fa sn fc tg i v us w' := by
  unfold pnXV at hv ⊢
  split at hv
  all_goals first
    | exact hv
set_option maxRecDepth 100000 in
set_option maxHeartbeats 16000000 in
theorem hPut (a : Option Addr) (n c : Nat) (ss : List Sk) (s : Sk) (w : World) (hx : ss.length = n) (hn : n ≤ 399) (hnc : n ≤ c) (hni : a = none → c = 0) (hri : Ris ss) (hfew : FewS ss) (hsl : s.f.srcs.length ≤ 400) (hS : Sks w a ss) (hF : FOk w s.f) (hg : 0 ≤ s.g ∧ s.g ≤ 4294967295) :
    Calls Try.prog 19 #[.agg #[.slice a n c], .agg #[.int .i64 s.id, .int .u32 s.g, .bool s.f.ex, s.f.sl]] w fun e w' => OutP w e w' (putH ss s) (putS ss s) (putE ss s) := by
  obtain ⟨id, g, ⟨ex, srcs, fa, fc⟩⟩ := s
  simp only [Flt.sl] at hsl hF hg ⊢
  obtain ⟨sn, hsn⟩ : ∃ sn, srcs.length = sn := ⟨_, rfl⟩
  rw [hsn] at hsl ⊢
  have HSN := Lib.hid hsn
  have HX := Lib.hid hx
  have HNC := Lib.hid hnc
  have HNI := Lib.hid hni
  have HRI := Lib.hid hri
  have HFW := Lib.hid hfew
  have HG := Lib.hid hg
  have HAL : Hid (ss.length ≤ 100000 ∧ ∀ s ∈ ss, s.f.srcs.length ≤ 100000) := Lib.hid ⟨by omega, fun s hs => by have := hfew.2 s hs; omega⟩
  obtain ⟨x0, x1⟩ : ∃ w0, w.alloc (.cells #[.slice a n c] 36) = w0 := ⟨_, rfl⟩
  have p0 := host_new w (.slice a n c)
  have q := sock_new (w.alloc (.cells #[.slice a n c] 36)) (.int .i64 id) (.int .u32 g) (.bool ex) (.slice fa sn fc)
  rw [World.size_alloc] at q
  have hb1 := bel1 w (.cells #[.slice a n c] 36)
  have hb2 := bel1 (w.alloc (.cells #[.slice a n c] 36)) (.cells #[.int .i64 id, .int .u32 g, .bool ex, .slice fa sn fc] 38)
  have hb3 := bel1 ((w.alloc (.cells #[.slice a n c] 36)).alloc (.cells #[.int .i64 id, .int .u32 g, .bool ex, .slice fa sn fc] 38)) (.cells #[.slice none 0 0] 36)
  have hbx := Go.Deep.blk_alloc_new ((w.alloc (.cells #[.slice a n c] 36)).alloc (.cells #[.int .i64 id, .int .u32 g, .bool ex, .slice fa sn fc] 38)) (.cells #[.slice none 0 0] 36)
  rw [World.size_alloc, World.size_alloc] at hbx
  have hs3 : (((w.alloc (.cells #[.slice a n c] 36)).alloc (.cells #[.int .i64 id, .int .u32 g, .bool ex, .slice fa sn fc] 38)).alloc (.cells #[.slice none 0 0] 36)).heap.size = w.heap.size + 3 := by simp
  have CH := Lib.hid ((hb3.cell (cell_lt ((hb2.cell (cell_lt p0)).trans p0))).trans ((hb2.cell (cell_lt p0)).trans p0))
  have s0 := (hb3.cell (cell_lt q.1)).trans q.1
  have S1 := Lib.hid ((hb3.cell (cell_lt q.2.1)).trans q.2.1)
  have S2 := Lib.hid ((hb3.cell (cell_lt q.2.2.1)).trans q.2.2.1)
  have S3 := Lib.hid ((hb3.cell (cell_lt q.2.2.2)).trans q.2.2.2)
  have HBX := Lib.hid hbx
  have hbw := (hb1.trans (hb2.mono hb1.size)).trans (hb3.mono (hb1.trans (hb2.mono hb1.size)).size)
  have HW1 := Lib.hid hbw
  have HS1 := Lib.hid hs3
  have HSK := Lib.hid (hS.below hbw)
  have HFO := Lib.hid (hF.below hbw)
  have hR := fun W (hb : Below (((w.alloc (.cells #[.slice a n c] 36)).alloc (.cells #[.int .i64 id, .int .u32 g, .bool ex, .slice fa sn fc] 38)).alloc (.cells #[.slice none 0 0] 36)).heap.size (((w.alloc (.cells #[.slice a n c] 36)).alloc (.cells #[.int .i64 id, .int .u32 g, .bool ex, .slice fa sn fc] 38)).alloc (.cells #[.slice none 0 0] 36)) W) => hIsRight ⟨id, g, ⟨ex, srcs, fa, fc⟩⟩ W ((hF.below hbw).below hb) (by show srcs.length ≤ _; omega)
  simp only [Flt.sl, hsn] at hR
  have HR0 := Lib.hid hR
  clear x0 x1 hsn hx hnc hni hri hfew hg p0 q hb1 hb2 hb3 hbx hbw hs3 hR hS hF
  go_enter Try.func19, Try.ntmps19
  have c0 := CH.out
  go_wp2_with fail
  generalize ((w.alloc (.cells #[.slice a n c] 36)).alloc (.cells #[.int .i64 id, .int .u32 g, .bool ex, .slice fa sn fc] 38)).alloc (.cells #[.slice none 0 0] 36) = w1 at *
  refine (hPlace a n c ss id w1 HX.out (by omega) HRI.out HSK.out).mono ?_
  rintro e w2 ⟨k, l, rfl, hpl, hb⟩
  have CH1 := CH
  have CH := Lib.hid ((hb.cell (cell_lt CH1.out)).trans CH1.out)
  have S0 := Lib.hid ((hb.cell (cell_lt s0)).trans s0)
  have S1 := Lib.hid ((hb.cell (cell_lt S1.out)).trans S1.out)
  have S2 := Lib.hid ((hb.cell (cell_lt S2.out)).trans S2.out)
  have S3 := Lib.hid ((hb.cell (cell_lt S3.out)).trans S3.out)
  have HBX := Lib.hid ((hb.block _ (Array.getElem?_eq_some_iff.1 HBX.out).1).trans HBX.out)
  have HSK := Lib.hid (HSK.out.below hb)
  have HFO := Lib.hid (HFO.out.below hb)
  have HR := Lib.hid (fun W (hW : Below w2.heap.size w2 W) => HR0.out W (hb.trans (hW.mono hb.size)))
  have HB2 := Lib.hid hb
  have HB1 : Hid (Below (w.heap.size + 2) w1 w1) := Lib.hid (Below.refl _ _)
  have HPL := Lib.hid hpl
  have hkl := hpl.1
  have hln := hpl.2.1
  rw [HX.out] at hln
  clear hb hpl CH1 s0 HR0 c0
  obtain ⟨ok, hok⟩ : ∃ ok, decide (okS ⟨id, g, ⟨ex, srcs, fa, fc⟩⟩) = ok := ⟨_, rfl⟩
  rw [hok] at HR
  have HD := Lib.hid hok
  clear hok
  have b : Nat := 0
  have off : Nat := 0
  have tg : Int := 0
  rcases HPL.out.2.2.2.2 with ⟨rfl, hno⟩ | ⟨rfl, u, hu, hid⟩
  · have HNO := Lib.hid hno
    clear hno
    have hnew : ((l : Int) == (l : Int)) = true := by simp
    go_wp2_with fail
    cases ok
    · have HE : Hid (putE ss ⟨id, g, ⟨ex, srcs, fa, fc⟩⟩ = 1) := Lib.hid (put_no (of_decide_eq_false HD.out))
      refine wp_region_each4 (pnNV w.heap.size (a) b off n c l id g ex fa sn fc tg) (fun W => Below w2.heap.size w2 W) (fun _ A B => Below A.heap.size A B) pnND pnNN [20, 21, 22, 23, 24, 25, 26, 27, 28, 29, 30, 31, 32, 33, 34, 35, 36, 37] (by kernel_rfl) (by kernel_rfl) (by kernel_rfl) (Below.refl _ w2).drew
        (fun i j oi oj v us A B hoi hoj hij hw hSA hr hv => pnN_st _ _ _ _ _ _ _ _ _ _ _ _ _ _ trivial hv) ?hgd ?hng ?hsk
        ⟨?_, ?_, ?_, ?_, ?_, ?_, ?_, ?_, ?_, ?_, ?_, ?_, ?_, ?_, ?_, ?_, ?_, ?_, trivial⟩ ?hend
      case hgd =>
        intro i o g b hoi hog v us w hv
        have hi : i < 18 := (Array.getElem?_eq_some_iff.1 hoi).1
        have hc : i = 0 ∨ i = 1 ∨ i = 2 ∨ i = 3 ∨ i = 4 ∨ i = 5 ∨ i = 6 ∨ i = 7 ∨ i = 8 ∨ i = 9 ∨ i = 10 ∨ i = 11 ∨ i = 12 ∨ i = 13 ∨ i = 14 ∨ i = 15 ∨ i = 16 ∨ i = 17 := by omega
        rcases hc with rfl | rfl | rfl | rfl | rfl | rfl | rfl | rfl | rfl | rfl | rfl | rfl | rfl | rfl | rfl | rfl | rfl | rfl
        · cases hoi; cases hog
        · cases hoi; cases hog
        · cases hoi; cases hog
        · cases hoi; cases hog
        · cases hoi; cases hog
          show v ≠ _
          rw [show v = _ from hv]
          intro e; cases e
        · cases hoi; cases hog
          show v ≠ _
          rw [show v = _ from hv]
          intro e; cases e
        · cases hoi; cases hog
          show v ≠ _
          rw [show v = _ from hv]
          intro e; cases e
        · cases hoi; cases hog
          show v ≠ _
          rw [show v = _ from hv]
          intro e; cases e
        · cases hoi; cases hog
          show v ≠ _
          rw [show v = _ from hv]
          intro e; cases e
        · cases hoi; cases hog
          show v ≠ _
          rw [show v = _ from hv]
          intro e; cases e
        · cases hoi; cases hog
          show v ≠ _
          rw [show v = _ from hv]
          intro e; cases e
        · cases hoi; cases hog
          show v ≠ _
          rw [show v = _ from hv]
          intro e; cases e
        · cases hoi; cases hog
          show v ≠ _
          rw [show v = _ from hv]
          intro e; cases e
        · cases hoi; cases hog
          show v ≠ _
          rw [show v = _ from hv]
          intro e; cases e
        · cases hoi; cases hog
          show v ≠ _
          rw [show v = _ from hv]
          intro e; cases e
        · cases hoi; cases hog
          show v ≠ _
          rw [show v = _ from hv]
          intro e; cases e
        · cases hoi; cases hog
          show v ≠ _
          rw [show v = _ from hv]
          intro e; cases e
        · cases hoi; cases hog
      case hng =>
        intro i o hoi hr
        have hi : i < 18 := (Array.getElem?_eq_some_iff.1 hoi).1
        have hc : i = 0 ∨ i = 1 ∨ i = 2 ∨ i = 3 ∨ i = 4 ∨ i = 5 ∨ i = 6 ∨ i = 7 ∨ i = 8 ∨ i = 9 ∨ i = 10 ∨ i = 11 ∨ i = 12 ∨ i = 13 ∨ i = 14 ∨ i = 15 ∨ i = 16 ∨ i = 17 := by omega
        rcases hc with rfl | rfl | rfl | rfl | rfl | rfl | rfl | rfl | rfl | rfl | rfl | rfl | rfl | rfl | rfl | rfl | rfl | rfl
        · exact absurd hr (by decide)
        · exact absurd hr (by decide)
        · exact absurd hr (by decide)
        · exact absurd hr (by decide)
        · cases hoi; exact ⟨_, _, rfl⟩
        · cases hoi; exact ⟨_, _, rfl⟩
        · cases hoi; exact ⟨_, _, rfl⟩
        · cases hoi; exact ⟨_, _, rfl⟩
        · cases hoi; exact ⟨_, _, rfl⟩
        · cases hoi; exact ⟨_, _, rfl⟩
        · cases hoi; exact ⟨_, _, rfl⟩
        · cases hoi; exact ⟨_, _, rfl⟩
        · cases hoi; exact ⟨_, _, rfl⟩
        · cases hoi; exact ⟨_, _, rfl⟩
        · cases hoi; exact ⟨_, _, rfl⟩
        · cases hoi; exact ⟨_, _, rfl⟩
        · cases hoi; exact ⟨_, _, rfl⟩
        · exact absurd hr (by decide)
      case hsk =>
        intro i us w hr hS
        by_cases hi : i < 18
        · have hc : i = 0 ∨ i = 1 ∨ i = 2 ∨ i = 3 ∨ i = 4 ∨ i = 5 ∨ i = 6 ∨ i = 7 ∨ i = 8 ∨ i = 9 ∨ i = 10 ∨ i = 11 ∨ i = 12 ∨ i = 13 ∨ i = 14 ∨ i = 15 ∨ i = 16 ∨ i = 17 := by omega
          rcases hc with rfl | rfl | rfl | rfl | rfl | rfl | rfl | rfl | rfl | rfl | rfl | rfl | rfl | rfl | rfl | rfl | rfl | rfl
          · exact absurd hr (by decide)
          · exact absurd hr (by decide)
          · exact absurd hr (by decide)
          · exact absurd hr (by decide)
          · exact rfl
          · exact rfl
          · exact rfl
          · exact rfl
          · exact rfl
          · exact rfl
          · exact rfl
          · exact rfl
          · exact rfl
          · exact rfl
          · exact rfl
          · exact rfl
          · exact rfl
          · exact absurd hr (by decide)
        · exact absurd hr (by rw [show pnNN i = true from by unfold pnNN; simp; omega]; decide)
      case refine_1 =>
        intro hrun a' w9 hS h0 hd
        have e3 : a'.tmps[3]?.getD undef = .pointer (some ⟨w.heap.size + 1, 0, none⟩) := evG (h0 3 (by kernel_rfl))
        have s0 := (hS.cell (cell_lt S0.out)).trans S0.out
        have s1 := (hS.cell (cell_lt S1.out)).trans S1.out
        have s2 := (hS.cell (cell_lt S2.out)).trans S2.out
        have s3 := (hS.cell (cell_lt S3.out)).trans S3.out
        refine Does2.value (.agg #[.int .i64 id, .int .u32 g, .bool ex, .slice fa sn fc]) (w' := w9) ?_ ⟨rfl, hS, Below.refl _ _⟩
        clear hS h0 hd hrun
        go_simp
      case refine_2 =>
        intro hrun a' w9 hS h0 hd
        have e20 : a'.tmps[20]?.getD undef = .agg #[.int .i64 id, .int .u32 g, .bool ex, .slice fa sn fc] := evG (hd 0 List.mem_cons_self)
        refine Does2.call 47 #[.agg #[.int .i64 id, .int .u32 g, .bool ex, .slice fa sn fc]] (w' := w9) ?_ ((HR.out w9 hS).mono ?_)
        · clear hS h0 hd
          go_simp
        · rintro e w8 ⟨rfl, hb⟩
          exact ⟨_, rfl, rfl, hS.trans (hb.mono hS.size), hb⟩
      case refine_3 =>
        intro hrun a' w9 hS h0 hd
        have e21 : a'.tmps[21]?.getD undef = .bool false := evG (hd 1 List.mem_cons_self)
        refine Does2.value (.bool true) (w' := w9) ?_ ⟨rfl, hS, Below.refl _ _⟩
        clear hS h0 hd hrun
        go_simp
      case refine_4 =>
        intro hrun a' w9 hS h0 hd
        have e22 : a'.tmps[22]?.getD undef = .bool true := evG (hd 2 List.mem_cons_self)
        refine Does2.value (.bool true) (w' := w9) ?_ ⟨rfl, hS, Below.refl _ _⟩
        clear hS h0 hd hrun
        go_simp
      case refine_5 =>
        intro hrun a' w9 hS h0 hd
        exact absurd hrun (by decide)
      case refine_6 =>
        intro hrun a' w9 hS h0 hd
        exact absurd hrun (by decide)
      case refine_7 =>
        intro hrun a' w9 hS h0 hd
        exact absurd hrun (by decide)
      case refine_8 =>
        intro hrun a' w9 hS h0 hd
        exact absurd hrun (by decide)
      case refine_9 =>
        intro hrun a' w9 hS h0 hd
        exact absurd hrun (by decide)
      case refine_10 =>
        intro hrun a' w9 hS h0 hd
        exact absurd hrun (by decide)
      case refine_11 =>
        intro hrun a' w9 hS h0 hd
        exact absurd hrun (by decide)
      case refine_12 =>
        intro hrun a' w9 hS h0 hd
        exact absurd hrun (by decide)
      case refine_13 =>
        intro hrun a' w9 hS h0 hd
        exact absurd hrun (by decide)
      case refine_14 =>
        intro hrun a' w9 hS h0 hd
        exact absurd hrun (by decide)
      case refine_15 =>
        intro hrun a' w9 hS h0 hd
        exact absurd hrun (by decide)
      case refine_16 =>
        intro hrun a' w9 hS h0 hd
        exact absurd hrun (by decide)
      case refine_17 =>
        intro hrun a' w9 hS h0 hd
        exact absurd hrun (by decide)
      case refine_18 =>
        intro hrun a' w9 hS h0 hd
        have e23 : a'.tmps[23]?.getD undef = .bool true := evG (hd 3 List.mem_cons_self)
        have e36 : a'.tmps[36]?.getD undef = undef := evG (hd 16 (List.mem_cons_of_mem _ List.mem_cons_self))
        refine Does2.value (.bool true) (w' := w9) ?_ ⟨rfl, hS, Below.refl _ _⟩
        clear hS h0 hd hrun
        go_simp
      case hend =>
        intro f w3 hS hv
        have v37 := hv 17 (by decide)
        replace v37 : f 37 = .bool true := v37
        simp only [putAll, Act.put, List.setIfInBounds_toArray, List.set_cons_zero, List.set_cons_succ, v37]
        have HB3 := Lib.hid (HB2.out.trans (hS.mono HB2.out.size))
        have CH3 := Lib.hid ((hS.cell (cell_lt CH.out)).trans CH.out)
        have s0 := (hS.cell (cell_lt S0.out)).trans S0.out
        have s1 := (hS.cell (cell_lt S1.out)).trans S1.out
        have s2 := (hS.cell (cell_lt S2.out)).trans S2.out
        have s3 := (hS.cell (cell_lt S3.out)).trans S3.out
        have c0 := CH3.out
        have HBX3 := Lib.hid ((hS.block _ (Array.getElem?_eq_some_iff.1 HBX.out).1).trans HBX.out)
        have HSK3 := Lib.hid (HSK.out.below hS)
        have HFO3 := Lib.hid (HFO.out.below hS)
        clear hS hv v37 S0 S1 S2 S3 CH HBX HSK HFO HB2
        have HB32 := HB3
        go_wp2_with fail
        have hb4 := bel1 w3 (.cells #[.slice a n c] 34)
        have hr1 := rws1 (w := w3) (r0 := (ss, a, c)) ⟨HSK3.out, HNI.out⟩
        simp only [HX.out] at hr1
        have hj := hJoined (some ⟨w3.heap.size, 0, none⟩) 1 1 [(ss, a, c)] _ rfl (by omega) (by simpa [alls] using HAL.out.1) (by simpa [alls] using HAL.out.2) hr1
        rw [show alls [(ss, a, c)] = ss by simp [alls]] at hj
        refine hj.mono ?_
        clear hj hr1
        rintro e w5 ⟨⟨a5, c5, ss5, rfl, h51, h52, h53, h54⟩, hb5⟩
        have HB5 := Lib.hid (hb4.trans (hb5.mono hb4.size))
        have HBX5 := Lib.hid ((HB5.out.block _ (Array.getElem?_eq_some_iff.1 HBX3.out).1).trans HBX3.out)
        have HH5 := Lib.hid (show ss5.map Sk.nm = ss.map Sk.nm ∧ Sks w5 a5 ss5 ∧ Flat a5 ss5.length c5 ∧ ss5.length ≤ c5 from ⟨h51, h52, h53, h54⟩)
        clear hb4 hb5 h51 h52 h53 h54
        obtain ⟨⟨r0, r1⟩, hl2, htm, hb9, -⟩ := fin_host HBX5.out (show Below (w.heap.size + 2) w1 w5 from HB1.out.trans ((HB32.out.trans (HB5.out.mono HB32.out.size)).mono (by have := HS1.out; omega))) a5 ss5.length c5
        have HL2 := Lib.hid hl2
        have HTM := Lib.hid htm
        have HB9 := Lib.hid (HW1.out.trans (hb9.mono (by omega)))
        clear hl2 htm hb9
        go_wp2_with fail
        refine ret_cell3 (p := 4) (u := 5) (v := 6) rfl rfl rfl HL2.out ?_
        rw [(putH_no (by rw [HE.out]; decide)).1, (putH_no (by rw [HE.out]; decide)).2, HE.out]
        exact ⟨⟨a5, c5, ss5, none, 0, [], rfl, ⟨HH5.out.1, HH5.out.2.1.tm HTM.out, HH5.out.2.2⟩, rfl, Rcs.nil _ _, fun _ => rfl⟩, HB9.out⟩
    · have HOK : Hid (okS ⟨id, g, ⟨ex, srcs, fa, fc⟩⟩) := Lib.hid (of_decide_eq_true HD.out)
      refine wp_region_each4 (pnZV w.heap.size (a) b off n c l id g ex fa sn fc tg) (fun W => Below w2.heap.size w2 W) (fun _ A B => Below A.heap.size A B) pnZD pnZN [20, 21, 22, 23, 24, 25, 26, 27, 28, 29, 30, 31, 32, 33, 34, 35, 36, 37] (by kernel_rfl) (by kernel_rfl) (by kernel_rfl) (Below.refl _ w2).drew
        (fun i j oi oj v us A B hoi hoj hij hw hSA hr hv => pnZ_st _ _ _ _ _ _ _ _ _ _ _ _ _ _ trivial hv) ?hgd ?hng ?hsk
        ⟨?_, ?_, ?_, ?_, ?_, ?_, ?_, ?_, ?_, ?_, ?_, ?_, ?_, ?_, ?_, ?_, ?_, ?_, trivial⟩ ?hend
      case hgd =>
        intro i o g b hoi hog v us w hv
        have hi : i < 18 := (Array.getElem?_eq_some_iff.1 hoi).1
        have hc : i = 0 ∨ i = 1 ∨ i = 2 ∨ i = 3 ∨ i = 4 ∨ i = 5 ∨ i = 6 ∨ i = 7 ∨ i = 8 ∨ i = 9 ∨ i = 10 ∨ i = 11 ∨ i = 12 ∨ i = 13 ∨ i = 14 ∨ i = 15 ∨ i = 16 ∨ i = 17 := by omega
        rcases hc with rfl | rfl | rfl | rfl | rfl | rfl | rfl | rfl | rfl | rfl | rfl | rfl | rfl | rfl | rfl | rfl | rfl | rfl
        · cases hoi; cases hog
        · cases hoi; cases hog
        · cases hoi; cases hog
        · cases hoi; cases hog
        · cases hoi; cases hog; exact hv
        · cases hoi; cases hog; exact hv
        · cases hoi; cases hog; exact hv
        · cases hoi; cases hog
          show v ≠ _
          rw [show v = _ from hv]
          intro e; cases e
        · cases hoi; cases hog
          show v ≠ _
          rw [show v = _ from hv]
          intro e; cases e
        · cases hoi; cases hog
          show v ≠ _
          rw [show v = _ from hv]
          intro e; cases e
        · cases hoi; cases hog
          show v ≠ _
          rw [show v = _ from hv]
          intro e; cases e
        · cases hoi; cases hog
          show v ≠ _
          rw [show v = _ from hv]
          intro e; cases e
        · cases hoi; cases hog
          show v ≠ _
          rw [show v = _ from hv]
          intro e; cases e
        · cases hoi; cases hog
          show v ≠ _
          rw [show v = _ from hv]
          intro e; cases e
        · cases hoi; cases hog
          show v ≠ _
          rw [show v = _ from hv]
          intro e; cases e
        · cases hoi; cases hog
          show v ≠ _
          rw [show v = _ from hv]
          intro e; cases e
        · cases hoi; cases hog; exact hv
        · cases hoi; cases hog
      case hng =>
        intro i o hoi hr
        have hi : i < 18 := (Array.getElem?_eq_some_iff.1 hoi).1
        have hc : i = 0 ∨ i = 1 ∨ i = 2 ∨ i = 3 ∨ i = 4 ∨ i = 5 ∨ i = 6 ∨ i = 7 ∨ i = 8 ∨ i = 9 ∨ i = 10 ∨ i = 11 ∨ i = 12 ∨ i = 13 ∨ i = 14 ∨ i = 15 ∨ i = 16 ∨ i = 17 := by omega
        rcases hc with rfl | rfl | rfl | rfl | rfl | rfl | rfl | rfl | rfl | rfl | rfl | rfl | rfl | rfl | rfl | rfl | rfl | rfl
        · exact absurd hr (by decide)
        · exact absurd hr (by decide)
        · exact absurd hr (by decide)
        · exact absurd hr (by decide)
        · exact absurd hr (by decide)
        · exact absurd hr (by decide)
        · exact absurd hr (by decide)
        · cases hoi; exact ⟨_, _, rfl⟩
        · cases hoi; exact ⟨_, _, rfl⟩
        · cases hoi; exact ⟨_, _, rfl⟩
        · cases hoi; exact ⟨_, _, rfl⟩
        · cases hoi; exact ⟨_, _, rfl⟩
        · cases hoi; exact ⟨_, _, rfl⟩
        · cases hoi; exact ⟨_, _, rfl⟩
        · cases hoi; exact ⟨_, _, rfl⟩
        · cases hoi; exact ⟨_, _, rfl⟩
        · exact absurd hr (by decide)
        · exact absurd hr (by decide)
      case hsk =>
        intro i us w hr hS
        by_cases hi : i < 18
        · have hc : i = 0 ∨ i = 1 ∨ i = 2 ∨ i = 3 ∨ i = 4 ∨ i = 5 ∨ i = 6 ∨ i = 7 ∨ i = 8 ∨ i = 9 ∨ i = 10 ∨ i = 11 ∨ i = 12 ∨ i = 13 ∨ i = 14 ∨ i = 15 ∨ i = 16 ∨ i = 17 := by omega
          rcases hc with rfl | rfl | rfl | rfl | rfl | rfl | rfl | rfl | rfl | rfl | rfl | rfl | rfl | rfl | rfl | rfl | rfl | rfl
          · exact absurd hr (by decide)
          · exact absurd hr (by decide)
          · exact absurd hr (by decide)
          · exact absurd hr (by decide)
          · exact absurd hr (by decide)
          · exact absurd hr (by decide)
          · exact absurd hr (by decide)
          · exact rfl
          · exact rfl
          · exact rfl
          · exact rfl
          · exact rfl
          · exact rfl
          · exact rfl
          · exact rfl
          · exact rfl
          · exact absurd hr (by decide)
          · exact absurd hr (by decide)
        · exact absurd hr (by rw [show pnZN i = true from by unfold pnZN; simp; omega]; decide)
      case refine_1 =>
        intro hrun a' w9 hS h0 hd
        have e3 : a'.tmps[3]?.getD undef = .pointer (some ⟨w.heap.size + 1, 0, none⟩) := evG (h0 3 (by kernel_rfl))
        have s0 := (hS.cell (cell_lt S0.out)).trans S0.out
        have s1 := (hS.cell (cell_lt S1.out)).trans S1.out
        have s2 := (hS.cell (cell_lt S2.out)).trans S2.out
        have s3 := (hS.cell (cell_lt S3.out)).trans S3.out
        refine Does2.value (.agg #[.int .i64 id, .int .u32 g, .bool ex, .slice fa sn fc]) (w' := w9) ?_ ⟨rfl, hS, Below.refl _ _⟩
        clear hS h0 hd hrun
        go_simp
      case refine_2 =>
        intro hrun a' w9 hS h0 hd
        have e20 : a'.tmps[20]?.getD undef = .agg #[.int .i64 id, .int .u32 g, .bool ex, .slice fa sn fc] := evG (hd 0 List.mem_cons_self)
        refine Does2.call 47 #[.agg #[.int .i64 id, .int .u32 g, .bool ex, .slice fa sn fc]] (w' := w9) ?_ ((HR.out w9 hS).mono ?_)
        · clear hS h0 hd
          go_simp
        · rintro e w8 ⟨rfl, hb⟩
          exact ⟨_, rfl, rfl, hS.trans (hb.mono hS.size), hb⟩
      case refine_3 =>
        intro hrun a' w9 hS h0 hd
        have e21 : a'.tmps[21]?.getD undef = .bool true := evG (hd 1 List.mem_cons_self)
        refine Does2.value (.bool false) (w' := w9) ?_ ⟨rfl, hS, Below.refl _ _⟩
        clear hS h0 hd hrun
        go_simp
      case refine_4 =>
        intro hrun a' w9 hS h0 hd
        have e22 : a'.tmps[22]?.getD undef = .bool false := evG (hd 2 List.mem_cons_self)
        refine Does2.value (.bool false) (w' := w9) ?_ ⟨rfl, hS, Below.refl _ _⟩
        clear hS h0 hd hrun
        go_simp
      case refine_5 =>
        intro hrun a' w9 hS h0 hd
        have e9 : a'.tmps[9]?.getD undef = .bool true := evG (h0 9 (by kernel_rfl))
        refine Does2.value (.bool true) (w' := w9) ?_ ⟨rfl, hS, Below.refl _ _⟩
        clear hS h0 hd hrun
        go_simp
      case refine_6 =>
        intro hrun a' w9 hS h0 hd
        have e24 : a'.tmps[24]?.getD undef = .bool true := evG (hd 4 List.mem_cons_self)
        refine Does2.value (.bool false) (w' := w9) ?_ ⟨rfl, hS, Below.refl _ _⟩
        clear hS h0 hd hrun
        go_simp
      case refine_7 =>
        intro hrun a' w9 hS h0 hd
        have e25 : a'.tmps[25]?.getD undef = .bool false := evG (hd 5 List.mem_cons_self)
        refine Does2.value (.bool false) (w' := w9) ?_ ⟨rfl, hS, Below.refl _ _⟩
        clear hS h0 hd hrun
        go_simp
      case refine_8 =>
        intro hrun a' w9 hS h0 hd
        exact absurd hrun (by decide)
      case refine_9 =>
        intro hrun a' w9 hS h0 hd
        exact absurd hrun (by decide)
      case refine_10 =>
        intro hrun a' w9 hS h0 hd
        exact absurd hrun (by decide)
      case refine_11 =>
        intro hrun a' w9 hS h0 hd
        exact absurd hrun (by decide)
      case refine_12 =>
        intro hrun a' w9 hS h0 hd
        exact absurd hrun (by decide)
      case refine_13 =>
        intro hrun a' w9 hS h0 hd
        exact absurd hrun (by decide)
      case refine_14 =>
        intro hrun a' w9 hS h0 hd
        exact absurd hrun (by decide)
      case refine_15 =>
        intro hrun a' w9 hS h0 hd
        exact absurd hrun (by decide)
      case refine_16 =>
        intro hrun a' w9 hS h0 hd
        exact absurd hrun (by decide)
      case refine_17 =>
        intro hrun a' w9 hS h0 hd
        have e26 : a'.tmps[26]?.getD undef = .bool false := evG (hd 6 List.mem_cons_self)
        have e35 : a'.tmps[35]?.getD undef = undef := evG (hd 15 (List.mem_cons_of_mem _ List.mem_cons_self))
        refine Does2.value (.bool false) (w' := w9) ?_ ⟨rfl, hS, Below.refl _ _⟩
        clear hS h0 hd hrun
        go_simp
      case refine_18 =>
        intro hrun a' w9 hS h0 hd
        have e23 : a'.tmps[23]?.getD undef = .bool false := evG (hd 3 List.mem_cons_self)
        have e36 : a'.tmps[36]?.getD undef = .bool false := evG (hd 16 (List.mem_cons_of_mem _ List.mem_cons_self))
        refine Does2.value (.bool false) (w' := w9) ?_ ⟨rfl, hS, Below.refl _ _⟩
        clear hS h0 hd hrun
        go_simp
      case hend =>
        intro f w3 hS hv
        have v37 := hv 17 (by decide)
        replace v37 : f 37 = .bool false := v37
        simp only [putAll, Act.put, List.setIfInBounds_toArray, List.set_cons_zero, List.set_cons_succ, v37]
        have HB3 := Lib.hid (HB2.out.trans (hS.mono HB2.out.size))
        have CH3 := Lib.hid ((hS.cell (cell_lt CH.out)).trans CH.out)
        have s0 := (hS.cell (cell_lt S0.out)).trans S0.out
        have s1 := (hS.cell (cell_lt S1.out)).trans S1.out
        have s2 := (hS.cell (cell_lt S2.out)).trans S2.out
        have s3 := (hS.cell (cell_lt S3.out)).trans S3.out
        have c0 := CH3.out
        have HBX3 := Lib.hid ((hS.block _ (Array.getElem?_eq_some_iff.1 HBX.out).1).trans HBX.out)
        have HSK3 := Lib.hid (HSK.out.below hS)
        have HFO3 := Lib.hid (HFO.out.below hS)
        clear hS hv v37 S0 S1 S2 S3 CH HBX HSK HFO HB2
        have HB32 := HB3
        by_cases h32 : 32 ≤ n
        · have HE : Hid (putE ss ⟨id, g, ⟨ex, srcs, fa, fc⟩⟩ = 7) := Lib.hid (put_full HOK.out HNO.out (by rw [HX.out]; exact h32))
          have h32' : (32 : Int) ≤ (n : Int) := by omega
          go_wp2_with fail
          have hb4 := bel1 w3 (.cells #[.slice a n c] 34)
          have hr1 := rws1 (w := w3) (r0 := (ss, a, c)) ⟨HSK3.out, HNI.out⟩
          simp only [HX.out] at hr1
          have hj := hJoined (some ⟨w3.heap.size, 0, none⟩) 1 1 [(ss, a, c)] _ rfl (by omega) (by simpa [alls] using HAL.out.1) (by simpa [alls] using HAL.out.2) hr1
          rw [show alls [(ss, a, c)] = ss by simp [alls]] at hj
          refine hj.mono ?_
          clear hj hr1
          rintro e w5 ⟨⟨a5, c5, ss5, rfl, h51, h52, h53, h54⟩, hb5⟩
          have HB5 := Lib.hid (hb4.trans (hb5.mono hb4.size))
          have HBX5 := Lib.hid ((HB5.out.block _ (Array.getElem?_eq_some_iff.1 HBX3.out).1).trans HBX3.out)
          have HH5 := Lib.hid (show ss5.map Sk.nm = ss.map Sk.nm ∧ Sks w5 a5 ss5 ∧ Flat a5 ss5.length c5 ∧ ss5.length ≤ c5 from ⟨h51, h52, h53, h54⟩)
          clear hb4 hb5 h51 h52 h53 h54
          obtain ⟨⟨r0, r1⟩, hl2, htm, hb9, -⟩ := fin_host HBX5.out (show Below (w.heap.size + 2) w1 w5 from HB1.out.trans ((HB32.out.trans (HB5.out.mono HB32.out.size)).mono (by have := HS1.out; omega))) a5 ss5.length c5
          have HL2 := Lib.hid hl2
          have HTM := Lib.hid htm
          have HB9 := Lib.hid (HW1.out.trans (hb9.mono (by omega)))
          clear hl2 htm hb9
          go_wp2_with fail
          refine ret_cell3 (p := 4) (u := 5) (v := 6) rfl rfl rfl HL2.out ?_
          rw [(putH_no (by rw [HE.out]; decide)).1, (putH_no (by rw [HE.out]; decide)).2, HE.out]
          exact ⟨⟨a5, c5, ss5, none, 0, [], rfl, ⟨HH5.out.1, HH5.out.2.1.tm HTM.out, HH5.out.2.2⟩, rfl, Rcs.nil _ _, fun _ => rfl⟩, HB9.out⟩
        · have HE : Hid (putE ss ⟨id, g, ⟨ex, srcs, fa, fc⟩⟩ = 0) := Lib.hid (put_new HOK.out HNO.out (by rw [HX.out]; exact h32))
          have h32' : decide ((32 : Int) ≤ (n : Int)) = false := decide_eq_false (by omega)
          go_wp2_with fail
          have hb4 := bel1 w3 (.cells #[.int .i64 id, .int .u32 g, .bool ex, .slice fa sn fc] 38)
          have hs1 := sks_new1 (s := ⟨id, g, ⟨ex, srcs, fa, fc⟩⟩) HFO3.out HG.out
          simp only [Flt.sl, HSN.out] at hs1
          have hpl : ss.take l ++ [(⟨id, g, ⟨ex, srcs, fa, fc⟩⟩ : Sk)] ++ ss.drop l = putL ss ⟨id, g, ⟨ex, srcs, fa, fc⟩⟩ := by rw [HPL.out.2.2.1, HPL.out.2.2.2.1]; rfl
          have hp := hReplaced a n c l l g (some ⟨w3.heap.size, 0, none⟩) 1 1 ss [⟨id, g, ⟨ex, srcs, fa, fc⟩⟩] _ HX.out HNC.out HNI.out (by omega) (by omega) rfl (by intro e; cases e) HFW.out (by rw [hpl]; exact putL_few HRI.out HFW.out (by have := HX.out; omega) (by show srcs.length ≤ 400; have := HSN.out; omega)) (HSK3.out.below hb4) hs1
          rw [hpl] at hp
          refine hp.mono ?_
          clear hp hs1
          rintro e w5 ⟨⟨a5, c5, ss5, b5, d5, rs5, rfl, ⟨h51, h52, h53, h54⟩, h55, h56, h57⟩, hb5⟩
          have HB5 := Lib.hid (hb4.trans (hb5.mono hb4.size))
          have HBX5 := Lib.hid ((HB5.out.block _ (Array.getElem?_eq_some_iff.1 HBX3.out).1).trans HBX3.out)
          have HH5 := Lib.hid (show ss5.map Sk.nm = (putL ss ⟨id, g, ⟨ex, srcs, fa, fc⟩⟩).map Sk.nm ∧ Sks w5 a5 ss5 ∧ Flat a5 ss5.length c5 ∧ ss5.length ≤ c5 from ⟨h51, h52, h53, h54⟩)
          have HR5 := Lib.hid (show rs5.map Rc.nm = (putR ss ⟨id, g, ⟨ex, srcs, fa, fc⟩⟩).map Rc.nm ∧ Rcs w5 b5 rs5 ∧ (b5 = none → d5 = 0) from ⟨h55, h56, h57⟩)
          clear hb4 hb5 h51 h52 h53 h54 h55 h56 h57 hpl
          obtain ⟨⟨r0, r1⟩, hl2, htm, hb9, -⟩ := fin_host HBX5.out (show Below (w.heap.size + 2) w1 w5 from HB1.out.trans ((HB32.out.trans (HB5.out.mono HB32.out.size)).mono (by have := HS1.out; omega))) a5 ss5.length c5
          have HL2 := Lib.hid hl2
          have HTM := Lib.hid htm
          have HB9 := Lib.hid (HW1.out.trans (hb9.mono (by omega)))
          clear hl2 htm hb9
          go_wp2_with fail
          refine ret_cell3 (p := 4) (u := 5) (v := 6) rfl rfl rfl HL2.out ?_
          rw [(putH_yes HE.out).1, (putH_yes HE.out).2, HE.out]
          exact ⟨⟨a5, c5, ss5, b5, d5, rs5, rfl, ⟨HH5.out.1, HH5.out.2.1.tm HTM.out, HH5.out.2.2⟩, HR5.out.1, HR5.out.2.1.tm HTM.out, HR5.out.2.2⟩, HB9.out⟩
  · have HU := Lib.hid hu
    have HID := Lib.hid hid
    clear hu hid
    obtain ⟨b', off', rfl, hc⟩ := HSK.out.at (k := k) (by rw [HX.out]; omega)
    have TG := Lib.hid (hc k u HU.out).1.2.1
    have HKN : Hid (k < n) := Lib.hid (by omega)
    have hnew : ((k : Int) == (k : Int) + 1) = false := beq_eq_false_iff_ne.2 (by omega)
    clear hc
    go_wp2_with fail
    cases ok
    · have HE : Hid (putE ss ⟨id, g, ⟨ex, srcs, fa, fc⟩⟩ = 1) := Lib.hid (put_no (of_decide_eq_false HD.out))
      refine wp_region_each4 (pnOV w.heap.size (some ⟨b', off', none⟩) b' off' n c k id g ex fa sn fc u.g) (fun W => Below w2.heap.size w2 W) (fun _ A B => Below A.heap.size A B) pnOD pnON [20, 21, 22, 23, 24, 25, 26, 27, 28, 29, 30, 31, 32, 33, 34, 35, 36, 37] (by kernel_rfl) (by kernel_rfl) (by kernel_rfl) (Below.refl _ w2).drew
        (fun i j oi oj v us A B hoi hoj hij hw hSA hr hv => pnO_st _ _ _ _ _ _ _ _ _ _ _ _ _ _ trivial hv) ?hgd ?hng ?hsk
        ⟨?_, ?_, ?_, ?_, ?_, ?_, ?_, ?_, ?_, ?_, ?_, ?_, ?_, ?_, ?_, ?_, ?_, ?_, trivial⟩ ?hend
      case hgd =>
        intro i o g b hoi hog v us w hv
        have hi : i < 18 := (Array.getElem?_eq_some_iff.1 hoi).1
        have hc : i = 0 ∨ i = 1 ∨ i = 2 ∨ i = 3 ∨ i = 4 ∨ i = 5 ∨ i = 6 ∨ i = 7 ∨ i = 8 ∨ i = 9 ∨ i = 10 ∨ i = 11 ∨ i = 12 ∨ i = 13 ∨ i = 14 ∨ i = 15 ∨ i = 16 ∨ i = 17 := by omega
        rcases hc with rfl | rfl | rfl | rfl | rfl | rfl | rfl | rfl | rfl | rfl | rfl | rfl | rfl | rfl | rfl | rfl | rfl | rfl
        · cases hoi; cases hog
        · cases hoi; cases hog
        · cases hoi; cases hog
        · cases hoi; cases hog
        · cases hoi; cases hog
          show v ≠ _
          rw [show v = _ from hv]
          intro e; cases e
        · cases hoi; cases hog
          show v ≠ _
          rw [show v = _ from hv]
          intro e; cases e
        · cases hoi; cases hog
          show v ≠ _
          rw [show v = _ from hv]
          intro e; cases e
        · cases hoi; cases hog
          show v ≠ _
          rw [show v = _ from hv]
          intro e; cases e
        · cases hoi; cases hog
          show v ≠ _
          rw [show v = _ from hv]
          intro e; cases e
        · cases hoi; cases hog
          show v ≠ _
          rw [show v = _ from hv]
          intro e; cases e
        · cases hoi; cases hog
          show v ≠ _
          rw [show v = _ from hv]
          intro e; cases e
        · cases hoi; cases hog
          show v ≠ _
          rw [show v = _ from hv]
          intro e; cases e
        · cases hoi; cases hog
          show v ≠ _
          rw [show v = _ from hv]
          intro e; cases e
        · cases hoi; cases hog
          show v ≠ _
          rw [show v = _ from hv]
          intro e; cases e
        · cases hoi; cases hog
          show v ≠ _
          rw [show v = _ from hv]
          intro e; cases e
        · cases hoi; cases hog
          show v ≠ _
          rw [show v = _ from hv]
          intro e; cases e
        · cases hoi; cases hog
          show v ≠ _
          rw [show v = _ from hv]
          intro e; cases e
        · cases hoi; cases hog
      case hng =>
        intro i o hoi hr
        have hi : i < 18 := (Array.getElem?_eq_some_iff.1 hoi).1
        have hc : i = 0 ∨ i = 1 ∨ i = 2 ∨ i = 3 ∨ i = 4 ∨ i = 5 ∨ i = 6 ∨ i = 7 ∨ i = 8 ∨ i = 9 ∨ i = 10 ∨ i = 11 ∨ i = 12 ∨ i = 13 ∨ i = 14 ∨ i = 15 ∨ i = 16 ∨ i = 17 := by omega
        rcases hc with rfl | rfl | rfl | rfl | rfl | rfl | rfl | rfl | rfl | rfl | rfl | rfl | rfl | rfl | rfl | rfl | rfl | rfl
        · exact absurd hr (by decide)
        · exact absurd hr (by decide)
        · exact absurd hr (by decide)
        · exact absurd hr (by decide)
        · cases hoi; exact ⟨_, _, rfl⟩
        · cases hoi; exact ⟨_, _, rfl⟩
        · cases hoi; exact ⟨_, _, rfl⟩
        · cases hoi; exact ⟨_, _, rfl⟩
        · cases hoi; exact ⟨_, _, rfl⟩
        · cases hoi; exact ⟨_, _, rfl⟩
        · cases hoi; exact ⟨_, _, rfl⟩
        · cases hoi; exact ⟨_, _, rfl⟩
        · cases hoi; exact ⟨_, _, rfl⟩
        · cases hoi; exact ⟨_, _, rfl⟩
        · cases hoi; exact ⟨_, _, rfl⟩
        · cases hoi; exact ⟨_, _, rfl⟩
        · cases hoi; exact ⟨_, _, rfl⟩
        · exact absurd hr (by decide)
      case hsk =>
        intro i us w hr hS
        by_cases hi : i < 18
        · have hc : i = 0 ∨ i = 1 ∨ i = 2 ∨ i = 3 ∨ i = 4 ∨ i = 5 ∨ i = 6 ∨ i = 7 ∨ i = 8 ∨ i = 9 ∨ i = 10 ∨ i = 11 ∨ i = 12 ∨ i = 13 ∨ i = 14 ∨ i = 15 ∨ i = 16 ∨ i = 17 := by omega
          rcases hc with rfl | rfl | rfl | rfl | rfl | rfl | rfl | rfl | rfl | rfl | rfl | rfl | rfl | rfl | rfl | rfl | rfl | rfl
          · exact absurd hr (by decide)
          · exact absurd hr (by decide)
          · exact absurd hr (by decide)
          · exact absurd hr (by decide)
          · exact rfl
          · exact rfl
          · exact rfl
          · exact rfl
          · exact rfl
          · exact rfl
          · exact rfl
          · exact rfl
          · exact rfl
          · exact rfl
          · exact rfl
          · exact rfl
          · exact rfl
          · exact absurd hr (by decide)
        · exact absurd hr (by rw [show pnON i = true from by unfold pnON; simp; omega]; decide)
      case refine_1 =>
        intro hrun a' w9 hS h0 hd
        have e3 : a'.tmps[3]?.getD undef = .pointer (some ⟨w.heap.size + 1, 0, none⟩) := evG (h0 3 (by kernel_rfl))
        have s0 := (hS.cell (cell_lt S0.out)).trans S0.out
        have s1 := (hS.cell (cell_lt S1.out)).trans S1.out
        have s2 := (hS.cell (cell_lt S2.out)).trans S2.out
        have s3 := (hS.cell (cell_lt S3.out)).trans S3.out
        refine Does2.value (.agg #[.int .i64 id, .int .u32 g, .bool ex, .slice fa sn fc]) (w' := w9) ?_ ⟨rfl, hS, Below.refl _ _⟩
        clear hS h0 hd hrun
        go_simp
      case refine_2 =>
        intro hrun a' w9 hS h0 hd
        have e20 : a'.tmps[20]?.getD undef = .agg #[.int .i64 id, .int .u32 g, .bool ex, .slice fa sn fc] := evG (hd 0 List.mem_cons_self)
        refine Does2.call 47 #[.agg #[.int .i64 id, .int .u32 g, .bool ex, .slice fa sn fc]] (w' := w9) ?_ ((HR.out w9 hS).mono ?_)
        · clear hS h0 hd
          go_simp
        · rintro e w8 ⟨rfl, hb⟩
          exact ⟨_, rfl, rfl, hS.trans (hb.mono hS.size), hb⟩
      case refine_3 =>
        intro hrun a' w9 hS h0 hd
        have e21 : a'.tmps[21]?.getD undef = .bool false := evG (hd 1 List.mem_cons_self)
        refine Does2.value (.bool true) (w' := w9) ?_ ⟨rfl, hS, Below.refl _ _⟩
        clear hS h0 hd hrun
        go_simp
      case refine_4 =>
        intro hrun a' w9 hS h0 hd
        have e22 : a'.tmps[22]?.getD undef = .bool true := evG (hd 2 List.mem_cons_self)
        refine Does2.value (.bool true) (w' := w9) ?_ ⟨rfl, hS, Below.refl _ _⟩
        clear hS h0 hd hrun
        go_simp
      case refine_5 =>
        intro hrun a' w9 hS h0 hd
        exact absurd hrun (by decide)
      case refine_6 =>
        intro hrun a' w9 hS h0 hd
        exact absurd hrun (by decide)
      case refine_7 =>
        intro hrun a' w9 hS h0 hd
        exact absurd hrun (by decide)
      case refine_8 =>
        intro hrun a' w9 hS h0 hd
        exact absurd hrun (by decide)
      case refine_9 =>
        intro hrun a' w9 hS h0 hd
        exact absurd hrun (by decide)
      case refine_10 =>
        intro hrun a' w9 hS h0 hd
        exact absurd hrun (by decide)
      case refine_11 =>
        intro hrun a' w9 hS h0 hd
        exact absurd hrun (by decide)
      case refine_12 =>
        intro hrun a' w9 hS h0 hd
        exact absurd hrun (by decide)
      case refine_13 =>
        intro hrun a' w9 hS h0 hd
        exact absurd hrun (by decide)
      case refine_14 =>
        intro hrun a' w9 hS h0 hd
        exact absurd hrun (by decide)
      case refine_15 =>
        intro hrun a' w9 hS h0 hd
        exact absurd hrun (by decide)
      case refine_16 =>
        intro hrun a' w9 hS h0 hd
        exact absurd hrun (by decide)
      case refine_17 =>
        intro hrun a' w9 hS h0 hd
        exact absurd hrun (by decide)
      case refine_18 =>
        intro hrun a' w9 hS h0 hd
        have e23 : a'.tmps[23]?.getD undef = .bool true := evG (hd 3 List.mem_cons_self)
        have e36 : a'.tmps[36]?.getD undef = undef := evG (hd 16 (List.mem_cons_of_mem _ List.mem_cons_self))
        refine Does2.value (.bool true) (w' := w9) ?_ ⟨rfl, hS, Below.refl _ _⟩
        clear hS h0 hd hrun
        go_simp
      case hend =>
        intro f w3 hS hv
        have v37 := hv 17 (by decide)
        replace v37 : f 37 = .bool true := v37
        simp only [putAll, Act.put, List.setIfInBounds_toArray, List.set_cons_zero, List.set_cons_succ, v37]
        have HB3 := Lib.hid (HB2.out.trans (hS.mono HB2.out.size))
        have CH3 := Lib.hid ((hS.cell (cell_lt CH.out)).trans CH.out)
        have s0 := (hS.cell (cell_lt S0.out)).trans S0.out
        have s1 := (hS.cell (cell_lt S1.out)).trans S1.out
        have s2 := (hS.cell (cell_lt S2.out)).trans S2.out
        have s3 := (hS.cell (cell_lt S3.out)).trans S3.out
        have c0 := CH3.out
        have HBX3 := Lib.hid ((hS.block _ (Array.getElem?_eq_some_iff.1 HBX.out).1).trans HBX.out)
        have HSK3 := Lib.hid (HSK.out.below hS)
        have HFO3 := Lib.hid (HFO.out.below hS)
        clear hS hv v37 S0 S1 S2 S3 CH HBX HSK HFO HB2
        have HB32 := HB3
        go_wp2_with fail
        have hb4 := bel1 w3 (.cells #[.slice (some ⟨b', off', none⟩) n c] 34)
        have hr1 := rws1 (w := w3) (r0 := (ss, some ⟨b', off', none⟩, c)) ⟨HSK3.out, HNI.out⟩
        simp only [HX.out] at hr1
        have hj := hJoined (some ⟨w3.heap.size, 0, none⟩) 1 1 [(ss, some ⟨b', off', none⟩, c)] _ rfl (by omega) (by simpa [alls] using HAL.out.1) (by simpa [alls] using HAL.out.2) hr1
        rw [show alls [(ss, some ⟨b', off', none⟩, c)] = ss by simp [alls]] at hj
        refine hj.mono ?_
        clear hj hr1
        rintro e w5 ⟨⟨a5, c5, ss5, rfl, h51, h52, h53, h54⟩, hb5⟩
        have HB5 := Lib.hid (hb4.trans (hb5.mono hb4.size))
        have HBX5 := Lib.hid ((HB5.out.block _ (Array.getElem?_eq_some_iff.1 HBX3.out).1).trans HBX3.out)
        have HH5 := Lib.hid (show ss5.map Sk.nm = ss.map Sk.nm ∧ Sks w5 a5 ss5 ∧ Flat a5 ss5.length c5 ∧ ss5.length ≤ c5 from ⟨h51, h52, h53, h54⟩)
        clear hb4 hb5 h51 h52 h53 h54
        obtain ⟨⟨r0, r1⟩, hl2, htm, hb9, -⟩ := fin_host HBX5.out (show Below (w.heap.size + 2) w1 w5 from HB1.out.trans ((HB32.out.trans (HB5.out.mono HB32.out.size)).mono (by have := HS1.out; omega))) a5 ss5.length c5
        have HL2 := Lib.hid hl2
        have HTM := Lib.hid htm
        have HB9 := Lib.hid (HW1.out.trans (hb9.mono (by omega)))
        clear hl2 htm hb9
        go_wp2_with fail
        refine ret_cell3 (p := 4) (u := 5) (v := 6) rfl rfl rfl HL2.out ?_
        rw [(putH_no (by rw [HE.out]; decide)).1, (putH_no (by rw [HE.out]; decide)).2, HE.out]
        exact ⟨⟨a5, c5, ss5, none, 0, [], rfl, ⟨HH5.out.1, HH5.out.2.1.tm HTM.out, HH5.out.2.2⟩, rfl, Rcs.nil _ _, fun _ => rfl⟩, HB9.out⟩
    · have HOK : Hid (okS ⟨id, g, ⟨ex, srcs, fa, fc⟩⟩) := Lib.hid (of_decide_eq_true HD.out)
      by_cases hgg : u.g = g
      · have HGG := Lib.hid hgg
        have hgg1 : (u.g != g) = false := by simpa using hgg
        clear hgg
        refine wp_region_each3 (pnYV w.heap.size (some ⟨b', off', none⟩) b' off' n c k id g ex fa sn fc u.g) (fun W => Below w2.heap.size w2 W) (fun _ A B => Below A.heap.size A B) pnYD [20, 21, 22, 23, 24, 25, 26, 27, 28, 29, 30, 31, 32, 33, 34, 35, 36, 37] (by kernel_rfl) (by kernel_rfl) (by kernel_rfl) (Below.refl _ w2).drew
          (fun i j oi oj v us A B hoi hoj hij hw hSA hr hv => pnY_st _ _ _ _ _ _ _ _ _ _ _ _ _ _ trivial hv) ?hgd
          ⟨?_, ?_, ?_, ?_, ?_, ?_, ?_, ?_, ?_, ?_, ?_, ?_, ?_, ?_, ?_, ?_, ?_, ?_, trivial⟩ ?hend
        case hgd =>
          intro i o g b hoi hog v us w hv
          have hi : i < 18 := (Array.getElem?_eq_some_iff.1 hoi).1
          have hc : i = 0 ∨ i = 1 ∨ i = 2 ∨ i = 3 ∨ i = 4 ∨ i = 5 ∨ i = 6 ∨ i = 7 ∨ i = 8 ∨ i = 9 ∨ i = 10 ∨ i = 11 ∨ i = 12 ∨ i = 13 ∨ i = 14 ∨ i = 15 ∨ i = 16 ∨ i = 17 := by omega
          rcases hc with rfl | rfl | rfl | rfl | rfl | rfl | rfl | rfl | rfl | rfl | rfl | rfl | rfl | rfl | rfl | rfl | rfl | rfl
          · cases hoi; cases hog
          · cases hoi; cases hog
          · cases hoi; cases hog
          · cases hoi; cases hog
          · cases hoi; cases hog; exact hv
          · cases hoi; cases hog; exact hv
          · cases hoi; cases hog; exact hv
          · cases hoi; cases hog; exact hv
          · cases hoi; cases hog; exact hv
          · cases hoi; cases hog; exact hv
          · cases hoi; cases hog; exact hv
          · cases hoi; cases hog; exact hv
          · cases hoi; cases hog; exact hv
          · cases hoi; cases hog; exact hv
          · cases hoi; cases hog; exact hv
          · cases hoi; cases hog; exact hv
          · cases hoi; cases hog; exact hv
          · cases hoi; cases hog
        case refine_1 =>
          intro a' w9 hS h0 hd
          have e3 : a'.tmps[3]?.getD undef = .pointer (some ⟨w.heap.size + 1, 0, none⟩) := evG (h0 3 (by kernel_rfl))
          have s0 := (hS.cell (cell_lt S0.out)).trans S0.out
          have s1 := (hS.cell (cell_lt S1.out)).trans S1.out
          have s2 := (hS.cell (cell_lt S2.out)).trans S2.out
          have s3 := (hS.cell (cell_lt S3.out)).trans S3.out
          refine Does2.value (.agg #[.int .i64 id, .int .u32 g, .bool ex, .slice fa sn fc]) (w' := w9) ?_ ⟨rfl, hS, Below.refl _ _⟩
          clear hS h0 hd
          go_simp
        case refine_2 =>
          intro a' w9 hS h0 hd
          have e20 : a'.tmps[20]?.getD undef = .agg #[.int .i64 id, .int .u32 g, .bool ex, .slice fa sn fc] := evG (hd 0 List.mem_cons_self)
          refine Does2.call 47 #[.agg #[.int .i64 id, .int .u32 g, .bool ex, .slice fa sn fc]] (w' := w9) ?_ ((HR.out w9 hS).mono ?_)
          · clear hS h0 hd
            go_simp
          · rintro e w8 ⟨rfl, hb⟩
            exact ⟨_, rfl, rfl, hS.trans (hb.mono hS.size), hb⟩
        case refine_3 =>
          intro a' w9 hS h0 hd
          have e21 : a'.tmps[21]?.getD undef = .bool true := evG (hd 1 List.mem_cons_self)
          refine Does2.value (.bool false) (w' := w9) ?_ ⟨rfl, hS, Below.refl _ _⟩
          clear hS h0 hd
          go_simp
        case refine_4 =>
          intro a' w9 hS h0 hd
          have e22 : a'.tmps[22]?.getD undef = .bool false := evG (hd 2 List.mem_cons_self)
          refine Does2.value (.bool false) (w' := w9) ?_ ⟨rfl, hS, Below.refl _ _⟩
          clear hS h0 hd
          go_simp
        case refine_5 =>
          intro a' w9 hS h0 hd
          have e9 : a'.tmps[9]?.getD undef = .bool false := evG (h0 9 (by kernel_rfl))
          refine Does2.value (.bool false) (w' := w9) ?_ ⟨rfl, hS, Below.refl _ _⟩
          clear hS h0 hd
          go_simp
        case refine_6 =>
          intro a' w9 hS h0 hd
          have e24 : a'.tmps[24]?.getD undef = .bool false := evG (hd 4 List.mem_cons_self)
          refine Does2.value (.bool true) (w' := w9) ?_ ⟨rfl, hS, Below.refl _ _⟩
          clear hS h0 hd
          go_simp
        case refine_7 =>
          intro a' w9 hS h0 hd
          have e25 : a'.tmps[25]?.getD undef = .bool true := evG (hd 5 List.mem_cons_self)
          refine Does2.value (.bool true) (w' := w9) ?_ ⟨rfl, hS, Below.refl _ _⟩
          clear hS h0 hd
          go_simp
        case refine_8 =>
          intro a' w9 hS h0 hd
          have e2 : a'.tmps[2]?.getD undef = .pointer (some ⟨w.heap.size, 0, none⟩) := evG (h0 2 (by kernel_rfl))
          refine Does2.value (.pointer (some ⟨w.heap.size, 0, none⟩)) (w' := w9) ?_ ⟨rfl, hS, Below.refl _ _⟩
          clear hS h0 hd
          go_simp
        case refine_9 =>
          intro a' w9 hS h0 hd
          have e27 : a'.tmps[27]?.getD undef = .pointer (some ⟨w.heap.size, 0, none⟩) := evG (hd 7 List.mem_cons_self)
          have c0 := (hS.cell (cell_lt CH.out)).trans CH.out
          refine Does2.value (.slice (some ⟨b', off', none⟩) n c) (w' := w9) ?_ ⟨rfl, hS, Below.refl _ _⟩
          clear hS h0 hd
          go_simp
        case refine_10 =>
          intro a' w9 hS h0 hd
          have e7 : a'.tmps[7]?.getD undef = .int .i64 (k : Nat) := evG (h0 7 (by kernel_rfl))
          refine Does2.value (.int .i64 (k : Nat)) (w' := w9) ?_ ⟨rfl, hS, Below.refl _ _⟩
          clear hS h0 hd
          go_simp
        case refine_11 =>
          intro a' w9 hS h0 hd
          have e28 : a'.tmps[28]?.getD undef = .slice (some ⟨b', off', none⟩) n c := evG (hd 8 List.mem_cons_self)
          have e29 : a'.tmps[29]?.getD undef = .int .i64 (k : Nat) := evG (hd 9 (List.mem_cons_of_mem _ List.mem_cons_self))
          have hk0 := HKN.out
          refine Does2.value (.pointer (some ⟨b', off' + k * 4, none⟩)) (w' := w9) ?_ ⟨rfl, hS, Below.refl _ _⟩
          clear hS h0 hd
          go_simp
        case refine_12 =>
          intro a' w9 hS h0 hd
          have e30 : a'.tmps[30]?.getD undef = .pointer (some ⟨b', off' + k * 4, none⟩) := evG (hd 10 List.mem_cons_self)
          refine Does2.value (.pointer (some ⟨b', off' + k * 4 + 1, none⟩)) (w' := w9) ?_ ⟨rfl, hS, Below.refl _ _⟩
          clear hS h0 hd
          go_simp
        case refine_13 =>
          intro a' w9 hS h0 hd
          have e31 : a'.tmps[31]?.getD undef = .pointer (some ⟨b', off' + k * 4 + 1, none⟩) := evG (hd 11 List.mem_cons_self)
          have t0 := (hS.cell (cell_lt TG.out)).trans TG.out
          refine Does2.value (.int .u32 u.g) (w' := w9) ?_ ⟨rfl, hS, Below.refl _ _⟩
          clear hS h0 hd
          go_simp
        case refine_14 =>
          intro a' w9 hS h0 hd
          have e3 : a'.tmps[3]?.getD undef = .pointer (some ⟨w.heap.size + 1, 0, none⟩) := evG (h0 3 (by kernel_rfl))
          refine Does2.value (.pointer (some ⟨w.heap.size + 1, 1, none⟩)) (w' := w9) ?_ ⟨rfl, hS, Below.refl _ _⟩
          clear hS h0 hd
          go_simp
        case refine_15 =>
          intro a' w9 hS h0 hd
          have e33 : a'.tmps[33]?.getD undef = .pointer (some ⟨w.heap.size + 1, 1, none⟩) := evG (hd 13 List.mem_cons_self)
          have s0 := (hS.cell (cell_lt S0.out)).trans S0.out
          have s1 := (hS.cell (cell_lt S1.out)).trans S1.out
          have s2 := (hS.cell (cell_lt S2.out)).trans S2.out
          have s3 := (hS.cell (cell_lt S3.out)).trans S3.out
          refine Does2.value (.int .u32 g) (w' := w9) ?_ ⟨rfl, hS, Below.refl _ _⟩
          clear hS h0 hd
          go_simp
        case refine_16 =>
          intro a' w9 hS h0 hd
          have e32 : a'.tmps[32]?.getD undef = .int .u32 u.g := evG (hd 12 List.mem_cons_self)
          have e34 : a'.tmps[34]?.getD undef = .int .u32 g := evG (hd 14 (List.mem_cons_of_mem _ List.mem_cons_self))
          refine Does2.value (.bool false) (w' := w9) ?_ ⟨rfl, hS, Below.refl _ _⟩
          clear hS h0 hd
          go_simp
        case refine_17 =>
          intro a' w9 hS h0 hd
          have e26 : a'.tmps[26]?.getD undef = .bool true := evG (hd 6 List.mem_cons_self)
          have e35 : a'.tmps[35]?.getD undef = .bool false := evG (hd 15 (List.mem_cons_of_mem _ List.mem_cons_self))
          refine Does2.value (.bool false) (w' := w9) ?_ ⟨rfl, hS, Below.refl _ _⟩
          clear hS h0 hd
          go_simp
        case refine_18 =>
          intro a' w9 hS h0 hd
          have e23 : a'.tmps[23]?.getD undef = .bool false := evG (hd 3 List.mem_cons_self)
          have e36 : a'.tmps[36]?.getD undef = .bool false := evG (hd 16 (List.mem_cons_of_mem _ List.mem_cons_self))
          refine Does2.value (.bool false) (w' := w9) ?_ ⟨rfl, hS, Below.refl _ _⟩
          clear hS h0 hd
          go_simp
        case hend =>
          intro f w3 hS hv
          have v37 := hv 17 (by decide)
          replace v37 : f 37 = .bool false := v37
          simp only [putAll, Act.put, List.setIfInBounds_toArray, List.set_cons_zero, List.set_cons_succ, v37]
          have HB3 := Lib.hid (HB2.out.trans (hS.mono HB2.out.size))
          have CH3 := Lib.hid ((hS.cell (cell_lt CH.out)).trans CH.out)
          have s0 := (hS.cell (cell_lt S0.out)).trans S0.out
          have s1 := (hS.cell (cell_lt S1.out)).trans S1.out
          have s2 := (hS.cell (cell_lt S2.out)).trans S2.out
          have s3 := (hS.cell (cell_lt S3.out)).trans S3.out
          have c0 := CH3.out
          have HBX3 := Lib.hid ((hS.block _ (Array.getElem?_eq_some_iff.1 HBX.out).1).trans HBX.out)
          have HSK3 := Lib.hid (HSK.out.below hS)
          have HFO3 := Lib.hid (HFO.out.below hS)
          clear hS hv v37 S0 S1 S2 S3 CH HBX HSK HFO HB2
          have HB32 := HB3
          have HE : Hid (putE ss ⟨id, g, ⟨ex, srcs, fa, fc⟩⟩ = 0) := Lib.hid (put_old HRI.out HOK.out (List.mem_of_getElem? HU.out) HID.out HGG.out)
          go_wp2_with fail
          have hb4 := bel1 w3 (.cells #[.int .i64 id, .int .u32 g, .bool ex, .slice fa sn fc] 38)
          have hs1 := sks_new1 (s := ⟨id, g, ⟨ex, srcs, fa, fc⟩⟩) HFO3.out HG.out
          simp only [Flt.sl, HSN.out] at hs1
          have hpl : ss.take k ++ [(⟨id, g, ⟨ex, srcs, fa, fc⟩⟩ : Sk)] ++ ss.drop (k + 1) = putL ss ⟨id, g, ⟨ex, srcs, fa, fc⟩⟩ := by rw [HPL.out.2.2.1, HPL.out.2.2.2.1]; rfl
          have hp := hReplaced (some ⟨b', off', none⟩) n c k (k + 1) g (some ⟨w3.heap.size, 0, none⟩) 1 1 ss [⟨id, g, ⟨ex, srcs, fa, fc⟩⟩] _ HX.out HNC.out HNI.out (by omega) (by omega) rfl (by intro e; cases e) HFW.out (by rw [hpl]; exact putL_few HRI.out HFW.out (by have := HX.out; omega) (by show srcs.length ≤ 400; have := HSN.out; omega)) (HSK3.out.below hb4) hs1
          rw [hpl] at hp
          rw [show ((k + 1 : Nat) : Int) = (k : Int) + 1 from by omega] at hp
          refine hp.mono ?_
          clear hp hs1
          rintro e w5 ⟨⟨a5, c5, ss5, b5, d5, rs5, rfl, ⟨h51, h52, h53, h54⟩, h55, h56, h57⟩, hb5⟩
          have HB5 := Lib.hid (hb4.trans (hb5.mono hb4.size))
          have HBX5 := Lib.hid ((HB5.out.block _ (Array.getElem?_eq_some_iff.1 HBX3.out).1).trans HBX3.out)
          have HH5 := Lib.hid (show ss5.map Sk.nm = (putL ss ⟨id, g, ⟨ex, srcs, fa, fc⟩⟩).map Sk.nm ∧ Sks w5 a5 ss5 ∧ Flat a5 ss5.length c5 ∧ ss5.length ≤ c5 from ⟨h51, h52, h53, h54⟩)
          have HR5 := Lib.hid (show rs5.map Rc.nm = (putR ss ⟨id, g, ⟨ex, srcs, fa, fc⟩⟩).map Rc.nm ∧ Rcs w5 b5 rs5 ∧ (b5 = none → d5 = 0) from ⟨h55, h56, h57⟩)
          clear hb4 hb5 h51 h52 h53 h54 h55 h56 h57 hpl
          obtain ⟨⟨r0, r1⟩, hl2, htm, hb9, -⟩ := fin_host HBX5.out (show Below (w.heap.size + 2) w1 w5 from HB1.out.trans ((HB32.out.trans (HB5.out.mono HB32.out.size)).mono (by have := HS1.out; omega))) a5 ss5.length c5
          have HL2 := Lib.hid hl2
          have HTM := Lib.hid htm
          have HB9 := Lib.hid (HW1.out.trans (hb9.mono (by omega)))
          clear hl2 htm hb9
          go_wp2_with fail
          refine ret_cell3 (p := 4) (u := 5) (v := 6) rfl rfl rfl HL2.out ?_
          rw [(putH_yes HE.out).1, (putH_yes HE.out).2, HE.out]
          exact ⟨⟨a5, c5, ss5, b5, d5, rs5, rfl, ⟨HH5.out.1, HH5.out.2.1.tm HTM.out, HH5.out.2.2⟩, HR5.out.1, HR5.out.2.1.tm HTM.out, HR5.out.2.2⟩, HB9.out⟩
      · have HE : Hid (putE ss ⟨id, g, ⟨ex, srcs, fa, fc⟩⟩ = 1) := Lib.hid (put_grp HOK.out (List.mem_of_getElem? HU.out) HID.out hgg)
        have hgg1 : (u.g != g) = true := by simpa using hgg
        clear hgg
        refine wp_region_each3 (pnXV w.heap.size (some ⟨b', off', none⟩) b' off' n c k id g ex fa sn fc u.g) (fun W => Below w2.heap.size w2 W) (fun _ A B => Below A.heap.size A B) pnXD [20, 21, 22, 23, 24, 25, 26, 27, 28, 29, 30, 31, 32, 33, 34, 35, 36, 37] (by kernel_rfl) (by kernel_rfl) (by kernel_rfl) (Below.refl _ w2).drew
          (fun i j oi oj v us A B hoi hoj hij hw hSA hr hv => pnX_st _ _ _ _ _ _ _ _ _ _ _ _ _ _ trivial hv) ?hgd
          ⟨?_, ?_, ?_, ?_, ?_, ?_, ?_, ?_, ?_, ?_, ?_, ?_, ?_, ?_, ?_, ?_, ?_, ?_, trivial⟩ ?hend
        case hgd =>
          intro i o g b hoi hog v us w hv
          have hi : i < 18 := (Array.getElem?_eq_some_iff.1 hoi).1
          have hc : i = 0 ∨ i = 1 ∨ i = 2 ∨ i = 3 ∨ i = 4 ∨ i = 5 ∨ i = 6 ∨ i = 7 ∨ i = 8 ∨ i = 9 ∨ i = 10 ∨ i = 11 ∨ i = 12 ∨ i = 13 ∨ i = 14 ∨ i = 15 ∨ i = 16 ∨ i = 17 := by omega
          rcases hc with rfl | rfl | rfl | rfl | rfl | rfl | rfl | rfl | rfl | rfl | rfl | rfl | rfl | rfl | rfl | rfl | rfl | rfl
          · cases hoi; cases hog
          · cases hoi; cases hog
          · cases hoi; cases hog
          · cases hoi; cases hog
          · cases hoi; cases hog; exact hv
          · cases hoi; cases hog; exact hv
          · cases hoi; cases hog; exact hv
          · cases hoi; cases hog; exact hv
          · cases hoi; cases hog; exact hv
          · cases hoi; cases hog; exact hv
          · cases hoi; cases hog; exact hv
          · cases hoi; cases hog; exact hv
          · cases hoi; cases hog; exact hv
          · cases hoi; cases hog; exact hv
          · cases hoi; cases hog; exact hv
          · cases hoi; cases hog; exact hv
          · cases hoi; cases hog; exact hv
          · cases hoi; cases hog
        case refine_1 =>
          intro a' w9 hS h0 hd
          have e3 : a'.tmps[3]?.getD undef = .pointer (some ⟨w.heap.size + 1, 0, none⟩) := evG (h0 3 (by kernel_rfl))
          have s0 := (hS.cell (cell_lt S0.out)).trans S0.out
          have s1 := (hS.cell (cell_lt S1.out)).trans S1.out
          have s2 := (hS.cell (cell_lt S2.out)).trans S2.out
          have s3 := (hS.cell (cell_lt S3.out)).trans S3.out
          refine Does2.value (.agg #[.int .i64 id, .int .u32 g, .bool ex, .slice fa sn fc]) (w' := w9) ?_ ⟨rfl, hS, Below.refl _ _⟩
          clear hS h0 hd
          go_simp
        case refine_2 =>
          intro a' w9 hS h0 hd
          have e20 : a'.tmps[20]?.getD undef = .agg #[.int .i64 id, .int .u32 g, .bool ex, .slice fa sn fc] := evG (hd 0 List.mem_cons_self)
          refine Does2.call 47 #[.agg #[.int .i64 id, .int .u32 g, .bool ex, .slice fa sn fc]] (w' := w9) ?_ ((HR.out w9 hS).mono ?_)
          · clear hS h0 hd
            go_simp
          · rintro e w8 ⟨rfl, hb⟩
            exact ⟨_, rfl, rfl, hS.trans (hb.mono hS.size), hb⟩
        case refine_3 =>
          intro a' w9 hS h0 hd
          have e21 : a'.tmps[21]?.getD undef = .bool true := evG (hd 1 List.mem_cons_self)
          refine Does2.value (.bool false) (w' := w9) ?_ ⟨rfl, hS, Below.refl _ _⟩
          clear hS h0 hd
          go_simp
        case refine_4 =>
          intro a' w9 hS h0 hd
          have e22 : a'.tmps[22]?.getD undef = .bool false := evG (hd 2 List.mem_cons_self)
          refine Does2.value (.bool false) (w' := w9) ?_ ⟨rfl, hS, Below.refl _ _⟩
          clear hS h0 hd
          go_simp
        case refine_5 =>
          intro a' w9 hS h0 hd
          have e9 : a'.tmps[9]?.getD undef = .bool false := evG (h0 9 (by kernel_rfl))
          refine Does2.value (.bool false) (w' := w9) ?_ ⟨rfl, hS, Below.refl _ _⟩
          clear hS h0 hd
          go_simp
        case refine_6 =>
          intro a' w9 hS h0 hd
          have e24 : a'.tmps[24]?.getD undef = .bool false := evG (hd 4 List.mem_cons_self)
          refine Does2.value (.bool true) (w' := w9) ?_ ⟨rfl, hS, Below.refl _ _⟩
          clear hS h0 hd
          go_simp
        case refine_7 =>
          intro a' w9 hS h0 hd
          have e25 : a'.tmps[25]?.getD undef = .bool true := evG (hd 5 List.mem_cons_self)
          refine Does2.value (.bool true) (w' := w9) ?_ ⟨rfl, hS, Below.refl _ _⟩
          clear hS h0 hd
          go_simp
        case refine_8 =>
          intro a' w9 hS h0 hd
          have e2 : a'.tmps[2]?.getD undef = .pointer (some ⟨w.heap.size, 0, none⟩) := evG (h0 2 (by kernel_rfl))
          refine Does2.value (.pointer (some ⟨w.heap.size, 0, none⟩)) (w' := w9) ?_ ⟨rfl, hS, Below.refl _ _⟩
          clear hS h0 hd
          go_simp
        case refine_9 =>
          intro a' w9 hS h0 hd
          have e27 : a'.tmps[27]?.getD undef = .pointer (some ⟨w.heap.size, 0, none⟩) := evG (hd 7 List.mem_cons_self)
          have c0 := (hS.cell (cell_lt CH.out)).trans CH.out
          refine Does2.value (.slice (some ⟨b', off', none⟩) n c) (w' := w9) ?_ ⟨rfl, hS, Below.refl _ _⟩
          clear hS h0 hd
          go_simp
        case refine_10 =>
          intro a' w9 hS h0 hd
          have e7 : a'.tmps[7]?.getD undef = .int .i64 (k : Nat) := evG (h0 7 (by kernel_rfl))
          refine Does2.value (.int .i64 (k : Nat)) (w' := w9) ?_ ⟨rfl, hS, Below.refl _ _⟩
          clear hS h0 hd
          go_simp
        case refine_11 =>
          intro a' w9 hS h0 hd
          have e28 : a'.tmps[28]?.getD undef = .slice (some ⟨b', off', none⟩) n c := evG (hd 8 List.mem_cons_self)
          have e29 : a'.tmps[29]?.getD undef = .int .i64 (k : Nat) := evG (hd 9 (List.mem_cons_of_mem _ List.mem_cons_self))
          have hk0 := HKN.out
          refine Does2.value (.pointer (some ⟨b', off' + k * 4, none⟩)) (w' := w9) ?_ ⟨rfl, hS, Below.refl _ _⟩
          clear hS h0 hd
          go_simp
        case refine_12 =>
          intro a' w9 hS h0 hd
          have e30 : a'.tmps[30]?.getD undef = .pointer (some ⟨b', off' + k * 4, none⟩) := evG (hd 10 List.mem_cons_self)
          refine Does2.value (.pointer (some ⟨b', off' + k * 4 + 1, none⟩)) (w' := w9) ?_ ⟨rfl, hS, Below.refl _ _⟩
          clear hS h0 hd
          go_simp
        case refine_13 =>
          intro a' w9 hS h0 hd
          have e31 : a'.tmps[31]?.getD undef = .pointer (some ⟨b', off' + k * 4 + 1, none⟩) := evG (hd 11 List.mem_cons_self)
          have t0 := (hS.cell (cell_lt TG.out)).trans TG.out
          refine Does2.value (.int .u32 u.g) (w' := w9) ?_ ⟨rfl, hS, Below.refl _ _⟩
          clear hS h0 hd
          go_simp
        case refine_14 =>
          intro a' w9 hS h0 hd
          have e3 : a'.tmps[3]?.getD undef = .pointer (some ⟨w.heap.size + 1, 0, none⟩) := evG (h0 3 (by kernel_rfl))
          refine Does2.value (.pointer (some ⟨w.heap.size + 1, 1, none⟩)) (w' := w9) ?_ ⟨rfl, hS, Below.refl _ _⟩
          clear hS h0 hd
          go_simp
        case refine_15 =>
          intro a' w9 hS h0 hd
          have e33 : a'.tmps[33]?.getD undef = .pointer (some ⟨w.heap.size + 1, 1, none⟩) := evG (hd 13 List.mem_cons_self)
          have s0 := (hS.cell (cell_lt S0.out)).trans S0.out
          have s1 := (hS.cell (cell_lt S1.out)).trans S1.out
          have s2 := (hS.cell (cell_lt S2.out)).trans S2.out
          have s3 := (hS.cell (cell_lt S3.out)).trans S3.out
          refine Does2.value (.int .u32 g) (w' := w9) ?_ ⟨rfl, hS, Below.refl _ _⟩
          clear hS h0 hd
          go_simp
        case refine_16 =>
          intro a' w9 hS h0 hd
          have e32 : a'.tmps[32]?.getD undef = .int .u32 u.g := evG (hd 12 List.mem_cons_self)
          have e34 : a'.tmps[34]?.getD undef = .int .u32 g := evG (hd 14 (List.mem_cons_of_mem _ List.mem_cons_self))
          refine Does2.value (.bool true) (w' := w9) ?_ ⟨rfl, hS, Below.refl _ _⟩
          clear hS h0 hd
          go_simp
        case refine_17 =>
          intro a' w9 hS h0 hd
          have e26 : a'.tmps[26]?.getD undef = .bool true := evG (hd 6 List.mem_cons_self)
          have e35 : a'.tmps[35]?.getD undef = .bool true := evG (hd 15 (List.mem_cons_of_mem _ List.mem_cons_self))
          refine Does2.value (.bool true) (w' := w9) ?_ ⟨rfl, hS, Below.refl _ _⟩
          clear hS h0 hd
          go_simp
        case refine_18 =>
          intro a' w9 hS h0 hd
          have e23 : a'.tmps[23]?.getD undef = .bool false := evG (hd 3 List.mem_cons_self)
          have e36 : a'.tmps[36]?.getD undef = .bool true := evG (hd 16 (List.mem_cons_of_mem _ List.mem_cons_self))
          refine Does2.value (.bool true) (w' := w9) ?_ ⟨rfl, hS, Below.refl _ _⟩
          clear hS h0 hd
          go_simp
        case hend =>
          intro f w3 hS hv
          have v37 := hv 17 (by decide)
          replace v37 : f 37 = .bool true := v37
          simp only [putAll, Act.put, List.setIfInBounds_toArray, List.set_cons_zero, List.set_cons_succ, v37]
          have HB3 := Lib.hid (HB2.out.trans (hS.mono HB2.out.size))
          have CH3 := Lib.hid ((hS.cell (cell_lt CH.out)).trans CH.out)
          have s0 := (hS.cell (cell_lt S0.out)).trans S0.out
          have s1 := (hS.cell (cell_lt S1.out)).trans S1.out
          have s2 := (hS.cell (cell_lt S2.out)).trans S2.out
          have s3 := (hS.cell (cell_lt S3.out)).trans S3.out
          have c0 := CH3.out
          have HBX3 := Lib.hid ((hS.block _ (Array.getElem?_eq_some_iff.1 HBX.out).1).trans HBX.out)
          have HSK3 := Lib.hid (HSK.out.below hS)
          have HFO3 := Lib.hid (HFO.out.below hS)
          clear hS hv v37 S0 S1 S2 S3 CH HBX HSK HFO HB2
          have HB32 := HB3
          go_wp2_with fail
          have hb4 := bel1 w3 (.cells #[.slice (some ⟨b', off', none⟩) n c] 34)
          have hr1 := rws1 (w := w3) (r0 := (ss, some ⟨b', off', none⟩, c)) ⟨HSK3.out, HNI.out⟩
          simp only [HX.out] at hr1
          have hj := hJoined (some ⟨w3.heap.size, 0, none⟩) 1 1 [(ss, some ⟨b', off', none⟩, c)] _ rfl (by omega) (by simpa [alls] using HAL.out.1) (by simpa [alls] using HAL.out.2) hr1
          rw [show alls [(ss, some ⟨b', off', none⟩, c)] = ss by simp [alls]] at hj
          refine hj.mono ?_
          clear hj hr1
          rintro e w5 ⟨⟨a5, c5, ss5, rfl, h51, h52, h53, h54⟩, hb5⟩
          have HB5 := Lib.hid (hb4.trans (hb5.mono hb4.size))
          have HBX5 := Lib.hid ((HB5.out.block _ (Array.getElem?_eq_some_iff.1 HBX3.out).1).trans HBX3.out)
          have HH5 := Lib.hid (show ss5.map Sk.nm = ss.map Sk.nm ∧ Sks w5 a5 ss5 ∧ Flat a5 ss5.length c5 ∧ ss5.length ≤ c5 from ⟨h51, h52, h53, h54⟩)
          clear hb4 hb5 h51 h52 h53 h54
          obtain ⟨⟨r0, r1⟩, hl2, htm, hb9, -⟩ := fin_host HBX5.out (show Below (w.heap.size + 2) w1 w5 from HB1.out.trans ((HB32.out.trans (HB5.out.mono HB32.out.size)).mono (by have := HS1.out; omega))) a5 ss5.length c5
          have HL2 := Lib.hid hl2
          have HTM := Lib.hid htm
          have HB9 := Lib.hid (HW1.out.trans (hb9.mono (by omega)))
          clear hl2 htm hb9
          go_wp2_with fail
          refine ret_cell3 (p := 4) (u := 5) (v := 6) rfl rfl rfl HL2.out ?_
          rw [(putH_no (by rw [HE.out]; decide)).1, (putH_no (by rw [HE.out]; decide)).2, HE.out]
          exact ⟨⟨a5, c5, ss5, none, 0, [], rfl, ⟨HH5.out.1, HH5.out.2.1.tm HTM.out, HH5.out.2.2⟩, rfl, Rcs.nil _ _, fun _ => rfl⟩, HB9.out⟩
end Go.Proofs.Ytmcbbccbonadjaa
/- What all laws of hosts ask first: the document's example. -/
namespace Go.Proofs.Ytmcbbccbonadjaa
set_option linter.unusedVariables false
open Go.RowKit

def sS : Sk := ⟨1, 4009820675, ⟨true, [], none, 0⟩⟩
theorem hs0 : putE [] sS = 0 := by
  have hk : okS sS := ⟨by decide, by decide, by decide, inc_nil⟩
  exact put_new hk (by simp) (by decide)
theorem hs1 : putL [] sS = [sS] := rfl
theorem hs2 : putR [] sS = [⟨4, 4009820675, [], none, 0⟩] := by kernel_rfl
theorem okH_nm {ss tt : List Sk} (h : ss.map Sk.nm = tt.map Sk.nm) (k : okH tt) : okH ss := by
  have hl : ss.length = tt.length := by have := congrArg List.length h; simpa using this
  refine ⟨fun s hs => ?_, ?_, by rw [hl]; exact k.2.2⟩
  · have h1 : s.nm ∈ tt.map Sk.nm := h ▸ List.mem_map.2 ⟨s, hs, rfl⟩
    obtain ⟨t, ht, e⟩ := List.mem_map.1 h1
    have h2 := k.1 t ht
    have e1 : t.id = s.id := congrArg (fun z => z.id) e
    have e2 : t.g = s.g := congrArg (fun z => z.g) e
    have e3 : t.f.srcs = s.f.srcs := congrArg (fun z => z.f.srcs) e
    unfold okS at *
    rw [← e1, ← e2, ← e3]; exact h2
  · have h1 : (ss.map Sk.nm).Pairwise fun s t => s.id < t.id := by
      rw [h, List.pairwise_map]; exact k.2.1
    rw [List.pairwise_map] at h1
    exact h1
theorem grp_eq {ss tt : List Sk} (h : ss.map Sk.nm = tt.map Sk.nm) : grp ss = grp tt := by rw [← grp_nm ss, h, grp_nm]
set_option maxRecDepth 100000 in
set_option maxHeartbeats 8000000 in
theorem hShown (w : World) : Calls Try.prog 16 #[] w fun e w' => e = .returned (.bool true) ∧ Below w.heap.size w w' := by
  have hp := hPut none 0 0 [] sS w rfl (by omega) (by omega) (fun _ => rfl) (by simp [Ris]) ⟨by simp, by simp⟩ (by simp [sS]) (.inl rfl) ⟨As.nil _ _, fun _ => rfl⟩ (by simp [sS])
  rw [(putH_yes hs0).1, (putH_yes hs0).2, hs0, hs1, hs2] at hp
  have HP := Lib.hid hp
  clear hp
  go_enter Try.func16, Try.ntmps16
  go_wp2_with fail
  refine HP.out.mono ?_
  rintro e w1 ⟨⟨a, c, ss, b, d, rs, rfl, ⟨h1, h2, h3, h4⟩, h5, h6, h7⟩, hb⟩
  have hl1 : ss.length = 1 := by have := congrArg List.length h1; simpa using this
  have hl2 : rs.length = 1 := by have := congrArg List.length h5; simpa using this
  have HB := Lib.hid hb
  have H1 := Lib.hid h1
  have H2 := Lib.hid h2
  obtain ⟨b0, off, rfl, hc⟩ := h6.at (k := 0) (by omega)
  obtain ⟨r, hr⟩ : ∃ r, rs[0]? = some r := ⟨_, List.getElem?_eq_getElem (by omega)⟩
  have hrc := hc 0 r hr
  rw [Nat.zero_mul, Nat.add_zero] at hrc
  have hrn : r.nm = (⟨4, 4009820675, [], none, 0⟩ : Rc) := by
    have := congrArg (fun l : List Rc => l[0]?) h5
    simp [hr] at this
    exact this
  have e1 : r.ty = 4 := congrArg (fun z => z.ty) hrn
  have e2 : r.g = 4009820675 := congrArg (fun z => z.g) hrn
  obtain ⟨⟨c0, c1, _⟩, _⟩ := hrc
  rw [e1] at c0
  rw [e2] at c1
  have HL1 := Lib.hid hl1
  rw [hl1, hl2]
  clear HP hb h1 h2 h3 h4 h5 h6 h7 hc hr hrn e1 e2 hl2 hl1
  have hb1 := bel1 w1 (.cells #[.slice a 1 c] 36)
  have hh := host_new w1 (.slice a 1 c)
  have c0 := (hb1.cell (cell_lt c0)).trans c0
  have c1 := (hb1.cell (cell_lt c1)).trans c1
  have H2 := Lib.hid (H2.out.below hb1)
  have HB := Lib.hid (HB.out.trans (hb1.mono HB.out.size))
  have HOK : Hid (okH ss) := Lib.hid (okH_nm H1.out ⟨fun s hs => by simp at hs; subst hs; exact ⟨by decide, by decide, by decide, inc_nil⟩, by simp [Ris], by simp⟩)
  have HSL : Hid (∀ s ∈ ss, s.f.srcs.length ≤ 400) := Lib.hid ((fewS_nm H1.out ⟨by simp, by simp [sS]⟩).2)
  clear hb1
  go_wp2_with fail
  generalize w1.alloc (.cells #[.slice a 1 c] 36) = w2 at *
  refine (hRight a 1 c ss _ HL1.out (by omega) (fun s hs => by have := HSL.out s hs; omega) H2.out).mono ?_
  rintro e w3 ⟨rfl, hb3⟩
  rw [decide_eq_true HOK.out]
  have H3 := Lib.hid (H2.out.below hb3)
  have HB3 := Lib.hid (HB.out.trans (hb3.mono HB.out.size))
  have hh3 := (hb3.cell (cell_lt hh)).trans hh
  clear hb3 hh c0 c1
  go_wp2_with fail
  refine (hGroups a 1 c ss _ HL1.out ⟨by rw [HL1.out]; omega, HSL.out⟩ H3.out).mono ?_
  rintro e w4 ⟨⟨a4, c4, rfl, hA4, hf4⟩, hb4⟩
  have hg : (mk (grp ss)).length = 1 := by rw [grp_eq H1.out]; decide +kernel
  rw [hg]
  have HB4 := Lib.hid (HB3.out.trans (hb4.mono HB3.out.size))
  clear hA4 hf4 hb4 hg hh3
  go_wp2_with fail
  go_ret
  exact ⟨rfl, HB4.out⟩
end Go.Proofs.Ytmcbbccbonadjaa
