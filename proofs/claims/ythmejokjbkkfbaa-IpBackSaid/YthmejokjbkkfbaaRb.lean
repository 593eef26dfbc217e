/- Contracts of the document's own answers for frames (stolonref04): Decode, where it ends early. -/
import Derived.Test.YthmejokjbkkfbaaRa
import Derived.Test.YthmejokjbkkfbaaRh
import Derived.Test.YthmejokjbkkfbaaHb
import Derived.Test.YthmejokjbkkfbaaDp
import Derived.Test.YthmejokjbkkfbaaId
import Derived.Test.YthmejokjbkkfbaaSm
namespace Go.Proofs.Ythmejokjbkkfbaa
set_option linter.unusedVariables false
open Go.RowKit

/-- What Decode answers, in whatever program. -/
def DPost (xs : List Int) (w : World) (e : Ending) (w' : World) : Prop := ∃ v, e = .returned (.tuple #[.agg #[.int .u32 (decH xs).src, .int .u32 (decH xs).dst, .int .u8 (decH xs).proto, .int .u8 (decH xs).ttl, .int .u16 (decH xs).id, .bool (decH xs).alert], v, .int .i64 (fault xs)]) ∧ Sl w' v (decB xs) ∧ Below w.heap.size w w'
theorem post_err {xs : List Int} {w w' : World} {k : Int} (hk : fault xs = k) (h0 : k ≠ 0) (hb : Below w.heap.size w w') : DPost xs w (.returned (.tuple #[.agg #[.int .u32 hz.src, .int .u32 hz.dst, .int .u8 hz.proto, .int .u8 hz.ttl, .int .u16 hz.id, .bool hz.alert], .slice none 0 0, .int .i64 k])) w' := by
  have e1 : decH xs = hz := by unfold decH; rw [hk, if_neg h0]
  have e2 : decB xs = [] := by unfold decB; rw [hk, if_neg h0]
  unfold DPost
  rw [e1, e2, hk]
  exact ⟨_, rfl, ⟨none, 0, rfl, ⟨.inl rfl, isB_nil⟩, fun _ => ⟨rfl, rfl⟩⟩, hb⟩
theorem fault_at {xs : List Int} (h20 : 20 ≤ xs.length) (hf : xs.getD 0 0 = 69 ∨ xs.getD 0 0 = 70) (hH : hsz (al0 xs) ≤ xs.length) (h4 : ofs (xs.take (hsz (al0 xs))) = 0) :
    fault xs = if formOk xs then (if xs.length < all0 xs then 3 else if putS (xs.take (hsz (al0 xs))) 10 = xs.take (hsz (al0 xs)) then 0 else 4) else 2 := by
  unfold fault
  rw [if_neg (by omega), if_neg (fun e => e hf), if_neg (by omega), if_neg (fun e => e h4)]
  by_cases h5 : formOk xs
  · rw [if_neg (fun e => e h5), if_pos h5]
    by_cases h6 : xs.length < all0 xs
    · rw [if_pos h6, if_pos h6]
    · rw [if_neg h6, if_neg h6]
      by_cases h7 : putS (xs.take (hsz (al0 xs))) 10 = xs.take (hsz (al0 xs))
      · rw [if_neg (fun e => e h7), if_pos h7]
      · rw [if_pos h7, if_neg h7]
  · rw [if_pos h5, if_neg h5]
set_option maxRecDepth 100000 in
set_option maxHeartbeats 1000000 in
theorem rDecode1 (a : Option Addr) (n c : Nat) (xs : List Int) (w : World) (hx : xs.length = n) (h : n < 20) :
    Calls Try.prog 13 #[.slice a n c] w (DPost xs w) := by
  have HK : Hid (fault xs = 3) := Lib.hid (by unfold fault; rw [if_pos (by omega)])
  have hbx := HBox.new w hz
  have HBX := Lib.hid hbx
  clear hx hbx
  go_enter Try.func13, Try.ntmps13
  go_wp2_with fail
  exact ret_cell (p := 2) (u := 3) (v := 4) rfl rfl rfl HBX.out.load (post_err HK.out (by decide) ((Below.refl _ w).alloc (Nat.le_refl _) _))
set_option maxRecDepth 100000 in
set_option maxHeartbeats 1000000 in
theorem rDecode2 (b off n c : Nat) (xs : List Int) (w : World) (hx : xs.length = n) (h20 : 20 ≤ n) (hb : Bs w (some ⟨b, off, none⟩) xs) (h69 : xs.getD 0 0 ≠ 69) (h70 : xs.getD 0 0 ≠ 70) :
    Calls Try.prog 13 #[.slice (some ⟨b, off, none⟩) n c] w (DPost xs w) := by
  have HK : Hid (fault xs = 2) := Lib.hid (by unfold fault; rw [if_neg (by omega), if_pos (fun e => e.elim h69 h70)])
  have HBX := Lib.hid (HBox.new w hz)
  have e69 : (xs.getD 0 0 != 69) = true := by rw [bne_iff_ne]; exact h69
  have e70 : (xs.getD 0 0 != 70) = true := by rw [bne_iff_ne]; exact h70
  have i0 : (0 : Int) < (n : Int) := by omega
  have c1 : (w.alloc (.cells #[.int .u32 0, .int .u32 0, .int .u8 0, .int .u8 0, .int .u16 0, .bool false] 26)).cell? ⟨b, off, none⟩ = some (.int .u8 (xs.getD 0 0)) := bs_cell (bs_below hb ((Below.refl _ w).alloc (Nat.le_refl _) _)) (k := 0) (by omega)
  clear hx hb h69 h70
  generalize xs.getD 0 0 = x at *
  go_enter Try.func13, Try.ntmps13
  go_wp2_with fail
  exact ret_cell (p := 2) (u := 3) (v := 4) rfl rfl rfl HBX.out.load (post_err HK.out (by decide) ((Below.refl _ w).alloc (Nat.le_refl _) _))
set_option maxRecDepth 100000 in
set_option maxHeartbeats 1000000 in
theorem rDecode3 (b off n c : Nat) (xs : List Int) (w : World) (hx : xs.length = n) (h20 : 20 ≤ n) (hb : Bs w (some ⟨b, off, none⟩) xs) (h0 : xs.getD 0 0 = 70) (h24 : n < 24) :
    Calls Try.prog 13 #[.slice (some ⟨b, off, none⟩) n c] w (DPost xs w) := by
  have HK : Hid (fault xs = 3) := Lib.hid (by
    have hal : al0 xs = true := by unfold al0; rw [h0]; rfl
    unfold fault; rw [if_neg (by omega), if_neg (fun e => e (.inr h0)), hal, if_pos (by show xs.length < 24; omega)])
  have HBX := Lib.hid (HBox.new w hz)
  have i0 : (0 : Int) < (n : Int) := by omega
  have c1 : (w.alloc (.cells #[.int .u32 0, .int .u32 0, .int .u8 0, .int .u8 0, .int .u16 0, .bool false] 26)).cell? ⟨b, off, none⟩ = some (.int .u8 70) := by rw [← h0]; exact bs_cell (bs_below hb ((Below.refl _ w).alloc (Nat.le_refl _) _)) (k := 0) (by omega)
  clear hx hb h0
  go_enter Try.func13, Try.ntmps13
  go_wp2_with fail
  exact ret_cell (p := 2) (u := 3) (v := 4) rfl rfl rfl HBX.out.load (post_err HK.out (by decide) ((Below.refl _ w).alloc (Nat.le_refl _) _))
set_option maxRecDepth 100000 in
set_option maxHeartbeats 1000000 in
theorem rDecode4_20 (b off n c : Nat) (xs : List Int) (w : World) (hx : xs.length = n) (hn : n ≤ 1000000) (hnc : n ≤ c) (h20 : 20 ≤ n) (hb : Bs w (some ⟨b, off, none⟩) xs) (h0 : xs.getD 0 0 = 69) (hH : 20 ≤ n) (h4 : ofs (xs.take 20) ≠ 0) :
    Calls Try.prog 13 #[.slice (some ⟨b, off, none⟩) n c] w (DPost xs w) := by
  have HK : Hid (fault xs = 4) := Lib.hid (by
    have hs : hsz (al0 xs) = 20 := by unfold al0; rw [h0]; rfl
    unfold fault; rw [if_neg (by omega), if_neg (fun e => e (.inl h0)), hs, if_neg (by omega), if_pos h4])
  have HBX := Lib.hid (HBox.new w hz)
  have e4 : (ofs (xs.take 20) != 0) = true := by rw [bne_iff_ne]; exact h4
  have HT : Hid ((xs.take 20).length = 20) := Lib.hid (by rw [List.length_take, hx]; omega)
  have i0 : (0 : Int) < (n : Int) := by omega
  have c1 : (w.alloc (.cells #[.int .u32 0, .int .u32 0, .int .u8 0, .int .u8 0, .int .u16 0, .bool false] 26)).cell? ⟨b, off, none⟩ = some (.int .u8 69) := by rw [← h0]; exact bs_cell (bs_below hb ((Below.refl _ w).alloc (Nat.le_refl _) _)) (k := 0) (by omega)
  have HB := Lib.hid hb
  clear hx hb h0 h4
  go_enter Try.func13, Try.ntmps13
  go_wp2_with (go_at_call 26; refine (rOf2 _ 20 c (xs.take 20) _ HT.out (by omega) (bs_take (bs_below HB.out ((Below.refl _ w).alloc (Nat.le_refl _) _)) 20)).mono ?_; rintro e w2 ⟨rfl, rfl⟩)
  exact ret_cell (p := 2) (u := 3) (v := 4) rfl rfl rfl HBX.out.load (post_err HK.out (by decide) ((Below.refl _ w).alloc (Nat.le_refl _) _))
set_option maxRecDepth 100000 in
set_option maxHeartbeats 1000000 in
theorem rDecode4_24 (b off n c : Nat) (xs : List Int) (w : World) (hx : xs.length = n) (hn : n ≤ 1000000) (hnc : n ≤ c) (h20 : 20 ≤ n) (hb : Bs w (some ⟨b, off, none⟩) xs) (h0 : xs.getD 0 0 = 70) (hH : 24 ≤ n) (h4 : ofs (xs.take 24) ≠ 0) :
    Calls Try.prog 13 #[.slice (some ⟨b, off, none⟩) n c] w (DPost xs w) := by
  have HK : Hid (fault xs = 4) := Lib.hid (by
    have hs : hsz (al0 xs) = 24 := by unfold al0; rw [h0]; rfl
    unfold fault; rw [if_neg (by omega), if_neg (fun e => e (.inr h0)), hs, if_neg (by omega), if_pos h4])
  have HBX := Lib.hid (HBox.new w hz)
  have e4 : (ofs (xs.take 24) != 0) = true := by rw [bne_iff_ne]; exact h4
  have HT : Hid ((xs.take 24).length = 24) := Lib.hid (by rw [List.length_take, hx]; omega)
  have i0 : (0 : Int) < (n : Int) := by omega
  have c1 : (w.alloc (.cells #[.int .u32 0, .int .u32 0, .int .u8 0, .int .u8 0, .int .u16 0, .bool false] 26)).cell? ⟨b, off, none⟩ = some (.int .u8 70) := by rw [← h0]; exact bs_cell (bs_below hb ((Below.refl _ w).alloc (Nat.le_refl _) _)) (k := 0) (by omega)
  have HB := Lib.hid hb
  clear hx hb h0 h4
  go_enter Try.func13, Try.ntmps13
  go_wp2_with (go_at_call 26; refine (rOf2 _ 24 c (xs.take 24) _ HT.out (by omega) (bs_take (bs_below HB.out ((Below.refl _ w).alloc (Nat.le_refl _) _)) 24)).mono ?_; rintro e w2 ⟨rfl, rfl⟩)
  exact ret_cell (p := 2) (u := 3) (v := 4) rfl rfl rfl HBX.out.load (post_err HK.out (by decide) ((Below.refl _ w).alloc (Nat.le_refl _) _))
end Go.Proofs.Ythmejokjbkkfbaa
