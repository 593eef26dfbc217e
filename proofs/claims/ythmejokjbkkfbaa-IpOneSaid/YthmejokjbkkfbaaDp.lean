/- Plain mathematics: what Decode and Passed answer. -/
import Derived.Test.YthmejokjbkkfbaaHd
namespace Go.Proofs.Ythmejokjbkkfbaa
set_option linter.unusedVariables false

def decH (xs : List Int) : Hdr := if fault xs = 0 then hdr xs else hz
def decB (xs : List Int) : List Int := if fault xs = 0 then bod xs else []
def less (h : Hdr) : Hdr := ⟨h.src, h.dst, h.proto, h.ttl - 1, h.id, h.alert⟩
def passE (xs : List Int) : Int := if fault xs = 0 then (if (hdr xs).ttl ≤ 1 then 6 else 0) else fault xs
def passB (xs : List Int) : List Int := if fault xs = 0 then (if (hdr xs).ttl ≤ 1 then [] else enc (less (hdr xs)) (bod xs)) else []
def encE (h : Hdr) (xs : List Int) : Int := if hsz h.alert + xs.length ≤ 1500 then 0 else 7
def encB (h : Hdr) (xs : List Int) : List Int := if hsz h.alert + xs.length ≤ 1500 then enc h xs else []
theorem less_ok {h : Hdr} (hk : h.ok) (h1 : ¬ h.ttl ≤ 1) : (less h).ok := by
  obtain ⟨a, b, c, d, e⟩ := hk
  exact ⟨a, b, c, ⟨by show 0 ≤ h.ttl - 1; omega, by show h.ttl - 1 ≤ 255; omega⟩, e⟩
theorem fault_bd (xs : List Int) : fault xs = 0 ∨ fault xs = 2 ∨ fault xs = 3 ∨ fault xs = 4 := by
  unfold fault
  repeat' split
  all_goals simp
theorem good_len {xs : List Int} (h : IsB xs) (hf : fault xs = 0) : hsz (hdr xs).alert + (bod xs).length ≤ 1500 ∧ hsz (hdr xs).alert + (bod xs).length = all0 xs ∧ all0 xs ≤ xs.length := by
  have g := good_of hf
  have e := (enc_hdr h g.len20 g.first g.lenH g.form g.lenA).2
  exact ⟨by rw [e]; exact g.form.2.2.2, e, g.lenA⟩
theorem decH_ok {xs : List Int} (h : IsB xs) : (decH xs).ok := by
  unfold decH
  split
  · rename_i hf
    exact hdr_ok h (good_of hf).len20
  · exact ⟨⟨by decide, by decide⟩, ⟨by decide, by decide⟩, ⟨by decide, by decide⟩, ⟨by decide, by decide⟩, ⟨by decide, by decide⟩⟩
theorem isB_decB {xs : List Int} (h : IsB xs) : IsB (decB xs) := by
  unfold decB; split
  · exact isB_bod h
  · exact isB_nil
end Go.Proofs.Ythmejokjbkkfbaa
