/- Contracts of package ip: parts of headers. -/
import Derived.Test.YthmejokjbkkfbaaHd
import Derived.Test.YthmejokjbkkfbaaJs
import Derived.Test.YthmejokjbkkfbaaAo
import Derived.Test.YthmejokjbkkfbaaSd
import Derived.Test.YthmejokjbkkfbaaSm
namespace Go.Proofs.Ythmejokjbkkfbaa
set_option linter.unusedVariables false
open Go.RowKit

/-- A header, as a value; its cells. -/
def hcs (h : Hdr) : Array Value := #[.int .u32 h.src, .int .u32 h.dst, .int .u8 h.proto, .int .u8 h.ttl, .int .u16 h.id, .bool h.alert]
def hv (h : Hdr) : Value := .agg #[.int .u32 h.src, .int .u32 h.dst, .int .u8 h.proto, .int .u8 h.ttl, .int .u16 h.id, .bool h.alert]

theorem iFirst (h : Hdr) (w : World) :
    Calls Try.prog 18 #[.agg #[.int .u32 h.src, .int .u32 h.dst, .int .u8 h.proto, .int .u8 h.ttl, .int .u16 h.id, .bool h.alert]] w fun e w' => e = .returned (.int .u8 (fbt h.alert)) ∧ Below w.heap.size w w' := by
  obtain ⟨s, d, p, t, i, al⟩ := h
  cases al
  all_goals
    go_enter Try.func18, Try.ntmps18
    go_wp2
    go_ret
    exact ⟨rfl, (Below.refl _ w).alloc (Nat.le_refl _) _⟩
theorem iSize (x : Int) (w : World) (h0 : 64 ≤ x) (h1 : x ≤ 255) :
    Calls Try.prog 17 #[.int .u8 x] w fun e w' => e = .returned (.int .i64 (4 * (x - 64))) ∧ w = w' := by
  go_enter Try.func17, Try.ntmps17
  go_wp2
  go_ret
  exact ⟨rfl, rfl⟩
theorem iTwo (n : Int) (w : World) (h0 : 0 ≤ n) (h1 : n ≤ 65535) :
    Calls Try.prog 29 #[.int .u16 n] w fun e w' => e = .returned (.slice (some ⟨w.heap.size, 0, none⟩) 2 2) ∧ w.alloc (.cells #[.int .u8 (n / 256), .int .u8 (n % 256)] 5) = w' := by
  go_enter Try.func29, Try.ntmps29
  go_wp2
  go_ret
  exact ⟨rfl, rfl⟩
theorem iAlert (w : World) :
    Calls Try.prog 31 #[] w fun e w' => e = .returned (.slice (some ⟨w.heap.size, 0, none⟩) 4 4) ∧ w.alloc (.cells #[.int .u8 148, .int .u8 4, .int .u8 0, .int .u8 0] 5) = w' := by
  go_enter Try.func31, Try.ntmps31
  go_wp2
  go_ret
  exact ⟨rfl, rfl⟩
theorem iNum (a : Option Addr) (n c : Nat) (xs : List Int) (w : World) (hn : xs.length = n) (h2 : 2 ≤ n) (hb : Bs w a xs) :
    Calls Try.prog 25 #[.slice a n c] w fun e w' => e = .returned (.int .u16 (num xs 0)) ∧ ∃ q, w.drewN q = w' := by
  rcases hb.1 with rfl | ⟨b, off, rfl, hc⟩
  · simp at hn; omega
  have c0 : w.cell? ⟨b, off, none⟩ = some (.int .u8 (xs.getD 0 0)) := hc 0 (by omega)
  have c1 : w.cell? ⟨b, off + 1, none⟩ = some (.int .u8 (xs.getD 1 0)) := hc 1 (by omega)
  obtain ⟨p0, p1⟩ := hb.2 0 (by omega)
  obtain ⟨q0, q1⟩ := hb.2 1 (by omega)
  have ev : bits .or .u16 (xs.getD 0 0 * 256) (xs.getD 1 0) = num xs 0 := or_hl ⟨p0, p1⟩ ⟨q0, q1⟩
  have EV := Lib.hid ev
  have i1 : (1 : Int) < (n : Int) := by omega
  have i0 : (0 : Int) < (n : Int) := by omega
  clear hb hc ev hn
  generalize xs.getD 0 0 = x at *
  generalize xs.getD 1 0 = y at *
  go_enter Try.func25, Try.ntmps25
  go_wp2
  go_quiet (fail)
  go_wp2
  go_ret
  exact ⟨ret_int EV.out, _, rfl⟩
theorem fs_ob {w : World} {B g n : Nat} {xs : List Int} (h : Ob w g xs) (hl : xs.length = n) (hb : IsB xs) (hg : B ≤ g) : Fs w B (.slice (some ⟨g, 0, none⟩) n n) xs :=
  ⟨g, n, by rw [hl], hg, by omega, h.bs hb, fun k _ => h.frozen k⟩
theorem iSummed (a : Option Addr) (n c : Nat) (xs : List Int) (w : World) (hx : xs.length = n) (hn : n ≤ 1000000) (h12 : 12 ≤ n) (hb : Bs w a xs) :
    Calls Try.prog 32 #[.slice a n c] w fun e w' => ∃ v, e = .returned v ∧ Fs w' w.heap.size v (putS xs 10) ∧ Below w.heap.size w w' := by
  have HX := Lib.hid hx
  have HB := Lib.hid hb
  clear hx hb
  go_enter Try.func32, Try.ntmps32
  go_wp2_with (go_at_call 39; refine (sPut_ok a n c 10 xs _ hn HX.out HB.out rfl (by omega)).mono ?_; rintro e w' ⟨g, rfl, ob, hg, hb1⟩)
  go_ret
  exact ⟨_, rfl, fs_ob ob (by rw [putS_len]; exact HX.out) (isB_putS HB.out.2 10) hg, hb1⟩
theorem iJoin (b n : Nat) (vs : List Value) (xss : List (List Int)) (w : World) (hn : xss.length = n) (h2 : 2 ≤ n) (hp : Parts w b vs xss) (hl : xss.flatten.length ≤ 1000000) (hn' : n ≤ 100) :
    Calls Try.prog 19 #[.slice (some ⟨b, 0, none⟩) n n] w fun e w' => ∃ v, e = .returned v ∧ Fs w' w.heap.size v xss.flatten ∧ Below w.heap.size w w' := by
  have HN := Lib.hid hn
  have HP := Lib.hid hp
  have HL := Lib.hid hl
  clear hn hp hl
  go_enter Try.func19, Try.ntmps19
  go_wp2_with (go_at_call 28; refine (lJoin b n vs xss _ HN.out h2 HP.out HL.out hn').mono ?_; rintro e w' ⟨v, rfl, hf, hb1⟩)
  go_ret
  exact ⟨_, rfl, hf, hb1⟩
theorem iJoin1 (b : Nat) (v0 : Value) (xs : List Int) (w : World) (hc : w.cell? ⟨b, 0, none⟩ = some v0) (hs : Sl w v0 xs) (hl : xs.length ≤ 1000000) :
    Calls Try.prog 19 #[.slice (some ⟨b, 0, none⟩) 1 1] w fun e w' => ∃ v, e = .returned v ∧ Sl w' v xs ∧ Below w.heap.size w w' := by
  have HC := Lib.hid hc
  have HS := Lib.hid hs
  have HL := Lib.hid hl
  clear hc hs hl
  go_enter Try.func19, Try.ntmps19
  go_wp2_with (go_at_call 28; refine (lJoin1 b v0 xs _ HC.out HS.out HL.out).mono ?_; rintro e w' ⟨v, rfl, hf, hb1⟩)
  go_ret
  exact ⟨_, rfl, hf, hb1⟩
end Go.Proofs.Ythmejokjbkkfbaa
