/- What the laws of stage 4 share: the document's example, and how what came in is read. -/
import Derived.Test.YthmejokjbkkfbaaIk
import Derived.Test.YthmejokjbkkfbaaRe
import Derived.Test.YthmejokjbkkfbaaFb
import Derived.Test.YthmejokjbkkfbaaSm
namespace Go.Proofs.Ythmejokjbkkfbaa
set_option linter.unusedVariables false
open Go.ChangeShapes Go.WideShapes Go.ChangeAt Go.RowKit

theorem get_field {H : Type} {enc : TypeId × Value → H} {P : Program} {w : World} {base : Nat} {spare : Nat → Bool} {held : Bool} {n : Nat} {fs : Array Field} {l : List Value} {xs : List (DataW H × List MemPlace)}
    (hg : ∀ (i : Nat) (f : Field), fs[i]? = some f → DataW.trod enc P w base spare held n f.type ((l.drop f.offset).take (P.cellsOf f.type)) = xs[i]?) (i : Nat) {f : Field} (off : Nat) (ty : TypeId) (k : Nat) (hf : fs[i]? = some f) (ho : f.offset = off) (ht : f.type = ty) (hk : P.cellsOf ty = k) (hlen : i < xs.length) :
    DataW.trod enc P w base spare held n ty ((l.drop off).take k) = some xs[i] := by
  have := hg i f hf
  rw [ho, ht, hk, List.getElem?_eq_getElem hlen] at this
  exact this
/-- The struct of a law's arguments: a header, bytes and two numbers. -/
theorem open_one {H : Type} {enc : TypeId × Value → H} {w : World} {base : Nat} {held : Bool} {r : Reach} {b0 : Nat} {v : Value} {d : DataW H} {p : List MemPlace}
    (hv : Value.okWide Try.prog w r b0 45 v) (h : DataW.Trod enc Try.prog w base (fun _ => true) held 45 v d p) :
    ∃ (hd : Hdr) (a : Option Addr) (len cap : Nat) (zs : List Int) (at' y : Int), v = .agg #[.int .u32 hd.src, .int .u32 hd.dst, .int .u8 hd.proto, .int .u8 hd.ttl, .int .u16 hd.id, .bool hd.alert, .slice a len cap, .int .i64 at', .int .u8 y] ∧ hd.ok ∧ IsRow .u8 w a len cap zs ∧
      (-9223372036854775808 ≤ at' ∧ at' ≤ 9223372036854775807) ∧ (0 ≤ y ∧ y ≤ 255) := by
  obtain ⟨cs, rfl, hsz⟩ := okWide_struct Try.underlying45 hv
  obtain ⟨l⟩ := cs
  have hl : l.length = 9 := by
    have : Try.prog.cellsOf 45 = 9 := by kernel_rfl
    rw [← this, ← hsz]; rfl
  match l, hl with
  | [c0, c1, c2, c3, c4, c5, c6, c7, c8], _ =>
  obtain ⟨fuel, hf⟩ := h
  obtain ⟨xs, n, _, _, _, hlen, hg⟩ := DataW.trod_struct Try.underlying45 hf
  have e6 : Try.prog.cellsOf 26 = 6 := by kernel_rfl
  have eA : Try.prog.cellsOf 23 = 1 := by kernel_rfl
  have e8 : Try.prog.cellsOf 5 = 1 := by kernel_rfl
  have e16 : Try.prog.cellsOf 24 = 1 := by kernel_rfl
  have eb : Try.prog.cellsOf 4 = 1 := by kernel_rfl
  have es : Try.prog.cellsOf 27 = 1 := by kernel_rfl
  have ei : Try.prog.cellsOf 3 = 1 := by kernel_rfl
  have hl4 : xs.length = 4 := by rw [hlen]; rfl
  have g0 := get_field hg 0 0 26 6 rfl rfl rfl e6 (by omega)
  have g1 := get_field hg 1 6 27 1 rfl rfl rfl es (by omega)
  have g2 := get_field hg 2 7 3 1 rfl rfl rfl ei (by omega)
  have g3 := get_field hg 3 8 5 1 rfl rfl rfl e8 (by omega)
  obtain ⟨xs0, m, _, _, _, hlen0, hh⟩ := DataW.trod_struct Try.underlying26 g0
  have hl6 : xs0.length = 6 := by rw [hlen0]; rfl
  have h0 := get_field hh 0 0 23 1 rfl rfl rfl eA (by omega)
  have h1 := get_field hh 1 1 23 1 rfl rfl rfl eA (by omega)
  have h2 := get_field hh 2 2 5 1 rfl rfl rfl e8 (by omega)
  have h3 := get_field hh 3 3 5 1 rfl rfl rfl e8 (by omega)
  have h4 := get_field hh 4 4 24 1 rfl rfl rfl e16 (by omega)
  have h5 := get_field hh 5 5 4 1 rfl rfl rfl eb (by omega)
  obtain ⟨s, q0, _, w0⟩ := DataW.trod_int Try.underlying23 h0
  obtain ⟨dd, q1, _, w1⟩ := DataW.trod_int Try.underlying23 h1
  obtain ⟨pr, q2, _, w2⟩ := DataW.trod_int Try.underlying5 h2
  obtain ⟨tt, q3, _, w3⟩ := DataW.trod_int Try.underlying5 h3
  obtain ⟨ii, q4, _, w4⟩ := DataW.trod_int Try.underlying24 h4
  obtain ⟨al, q5, _⟩ := DataW.trod_bool Try.underlying4 h5
  obtain ⟨a, len, cap, zs, rfl, wz⟩ := open_row Try.underlying27 Try.underlying5 (by kernel_rfl) g1
  obtain ⟨at', q7, _, w7⟩ := DataW.trod_int Try.underlying3 g2
  obtain ⟨y, q8, _, w8⟩ := DataW.trod_int Try.underlying5 g3
  simp [Value.cells] at q0 q1 q2 q3 q4 q5 q7 q8
  subst q0 q1 q2 q3 q4 q5 q7 q8
  exact ⟨⟨s, dd, pr, tt, ii, al⟩, a, len, cap, zs, at', y, rfl, ⟨u32_bd w0, u32_bd w1, u8_bd w2, u8_bd w3, u16_bd w4⟩, wz, i64_bd w7, u8_bd w8⟩
end Go.Proofs.Ythmejokjbkkfbaa
