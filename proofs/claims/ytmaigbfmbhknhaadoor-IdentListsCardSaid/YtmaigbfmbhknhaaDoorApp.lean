/- ident.App: the name of a text, or a fault at the first place at which the text is no name. -/
import Derived.Test.YtmaigbfmbhknhaaDoorRead
import Derived.Lib.Hide
namespace Go.Proofs.YtmaigbfmbhknhaaDoor.ident
open Go.RowKit Go.Proofs.YtmaigbfmbhknhaaDoor.errs

def inTeam : ByteArray := ⟨#[65, 66, 67, 68, 69, 70, 71, 72, 73, 74, 75, 76, 77, 78, 79, 80, 81, 82, 83, 84, 85, 86, 87, 88, 89, 90, 48, 49, 50, 51, 52, 53, 54, 55, 56, 57]⟩
def inBundle : ByteArray := ⟨#[65, 66, 67, 68, 69, 70, 71, 72, 73, 74, 75, 76, 77, 78, 79, 80, 81, 82, 83, 84, 85, 86, 87, 88, 89, 90, 97, 98, 99, 100, 101, 102, 103, 104, 105, 106, 107, 108, 109, 110, 111, 112, 113, 114, 115, 116, 117, 118, 119, 120, 121, 122, 48, 49, 50, 51, 52, 53, 54, 55, 56, 57, 45, 46]⟩

/-- The byte at a place. -/
def byteAt (s : ByteArray) (k : Nat) : Nat := (s.get! k).toNat
theorem byteAt_eq {s : ByteArray} {k : Nat} (h : k < s.size) : byteAt s k = (s[k]).toNat := by
  unfold byteAt
  congr 1
  exact getElem!_pos s.data k h

/-- May this byte stand there in an app's name? -/
def canApp (s : ByteArray) (k : Nat) : Bool := if k < 10 then inB inTeam (byteAt s k) else if k = 10 then ((byteAt s k : Int) == 46) else inB inBundle (byteAt s k)

theorem app1_any (s : ByteArray) (k B : Nat) (w : World) (hB : w.cell? ⟨B, 0, none⟩ = some (.string s)) (hk : k < s.size) (hs : s.size ≤ 9223372036854775807) :
    Calls Tryd.prog 23 #[.int .i64 k, .pointer (some ⟨B, 0, none⟩)] w fun e w' => e = .returned (.bool (canApp s k)) ∧ w = w' := by
  have y0 : (0 : Int) ≤ (k : Int) := by omega
  have y1 : (k : Int) < (s.size : Int) := by omega
  obtain ⟨c, hc⟩ : ∃ c, Hid (byteAt s k = c) := ⟨_, rfl⟩
  have hc' : Hid ((s[k]).toNat = c) := (byteAt_eq hk).symm.trans hc.out
  rcases (show k < 10 ∨ k = 10 ∨ 10 < k by omega) with h | h | h
  · have y2 : (k : Int) < 10 := by omega
    have R : Aside (canApp s k = inB inTeam c) := by unfold canApp; rw [if_pos h, hc.out]; exact rfl
    have C := among_any c inTeam w
    rw [← hc'.out] at C R
    generalize inB inTeam ((s[k]).toNat) = r at C R
    clear h
    go_enter Tryd.func23, Tryd.ntmps23
    go_wp2_with (go_at_call 24; refine C.mono ?_; rintro e w' ⟨rfl, rfl⟩)
    go_ret
    exact ⟨by rw [R.out]; rfl, rfl⟩
  · have y2 : ¬ (k : Int) < 10 := by omega
    have R : Aside (canApp s k = (((s[k]).toNat : Int) == 46)) := by unfold canApp; rw [if_neg (by omega), if_pos h, hc.out, hc'.out]; exact rfl
    have y3 : ((k : Int) == 10) = true := beq_iff_eq.2 (by omega)
    clear h
    go_enter Tryd.func23, Tryd.ntmps23
    go_wp2_with fail
    go_ret
    exact ⟨by rw [R.out]; rfl, rfl⟩
  · have y2 : ¬ (k : Int) < 10 := by omega
    have R : Aside (canApp s k = inB inBundle c) := by unfold canApp; rw [if_neg (by omega), if_neg (by omega), hc.out]; exact rfl
    have y3 : ((k : Int) == 10) = false := beq_eq_false_iff_ne.2 (by omega)
    have C := among_any c inBundle w
    rw [← hc'.out] at C R
    generalize inB inBundle ((s[k]).toNat) = r at C R
    clear h
    go_enter Tryd.func23, Tryd.ntmps23
    go_wp2_with (go_at_call 24; refine C.mono ?_; rintro e w' ⟨rfl, rfl⟩)
    go_ret
    exact ⟨by rw [R.out]; rfl, rfl⟩
end Go.Proofs.YtmaigbfmbhknhaaDoor.ident
