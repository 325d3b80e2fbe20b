/- The document's own table of the variables that there are always. -/
import Derived.Test.YtafopoacnngaeaaGreatDoorSvHas
set_option linter.unusedSimpArgs false
set_option linter.unusedVariables false
namespace Go.Proofs.YtafopoacnngaeaaGreatDoor.subst
open Go.RowKit Go.Proofs.YtafopoacnngaeaaGreatDoor.errs Go.Proofs.YtafopoacnngaeaaGreatDoor.rows Go.Proofs.YtafopoacnngaeaaGreatDoor.utf Go.Proofs.YtafopoacnngaeaaGreatDoor.glref Go.Proofs.YtafopoacnngaeaaGreatDoor.gmath Go.Proofs.YtafopoacnngaeaaGreatDoor.chars Go.Proofs.YtafopoacnngaeaaGreatDoor.marks

def rcSmall : List UInt8 := [97, 98, 99, 100, 101, 102, 103, 104, 105, 106, 107, 108, 109, 110, 111, 112, 113, 114, 115, 116, 117, 118, 119, 120, 121, 122]
def rcGreat : List UInt8 := [65, 66, 67, 68, 69, 70, 71, 72, 73, 74, 75, 76, 77, 78, 79, 80, 81, 82, 83, 84, 85, 86, 87, 88, 89, 90]
def rcDigit : List UInt8 := [48, 49, 50, 51, 52, 53, 54, 55, 56, 57]
def rcHex : List UInt8 := rcDigit ++ [97, 98, 99, 100, 101, 102, 65, 66, 67, 68, 69, 70]
def rcAmong : List (List UInt8) := [rcSmall ++ rcGreat, rcGreat, rcSmall, rcDigit, rcSmall ++ rcGreat ++ rcDigit, rcHex, rcGreat, rcSmall]
def rcAt (k : Nat) : List UInt8 := rcAmong.getD k []
/-- Which of the table a name is. -/
def rcIdx (nm : List UInt8) : Option Nat := clTab.findIdx? fun c => decide (c.name = nm)
def rcSize (o : Option Nat) : Int := match o with | none => 0 | some k => if 5 < k then 2 else 1
def rcChars (o : Option Nat) : ByteArray := match o with | none => ⟨#[]⟩ | some k => T (rcAt k)
theorem idx_from (nm : List UInt8) : ∀ (l : List Cl) (k : Nat), (∀ j, j < k → (l.getD j noCl).name ≠ nm) → k < l.length → (l.getD k noCl).name = nm → l.findIdx? (fun c => decide (c.name = nm)) = some k
  | [], _, _, h, _ => absurd h (by simp)
  | c :: l, 0, _, _, h => by
    have h : c.name = nm := h
    rw [List.findIdx?_cons, if_pos (decide_eq_true h)]
  | c :: l, k + 1, h1, h2, h3 => by
    have h0 : ¬ c.name = nm := h1 0 (by omega)
    rw [List.findIdx?_cons, if_neg (by rw [decide_eq_true_eq]; exact h0), idx_from nm l k (fun j hj => h1 (j + 1) (by omega)) (by simpa using h2) h3]
    rfl
theorem idx_none (nm : List UInt8) : ∀ (l : List Cl), (∀ j, j < l.length → (l.getD j noCl).name ≠ nm) → l.findIdx? (fun c => decide (c.name = nm)) = none
  | [], _ => rfl
  | c :: l, h => by
    have h0 : ¬ c.name = nm := h 0 (by simp)
    rw [List.findIdx?_cons, if_neg (by rw [decide_eq_true_eq]; exact h0), idx_none nm l (fun j hj => h (j + 1) (by simpa using hj))]
    rfl

theorem rcIdx_own (nm : List UInt8) : (rcIdx nm).isSome = isOwn nm := by
  unfold isOwn
  cases h : classOf nm with
  | none =>
    have hn : rcIdx nm = none := idx_none nm clTab fun j hj => by
      have hm := List.find?_eq_none.1 h (clTab.getD j noCl) (by rw [List.getD_eq_getElem?_getD, List.getElem?_eq_getElem hj]; exact List.getElem_mem _)
      simpa using hm
    rw [hn]
    rfl
  | some c =>
    cases hr : rcIdx nm with
    | some k => rfl
    | none =>
      exfalso
      have hm := List.mem_of_find?_eq_some h
      have hp := List.find?_some h
      have := List.findIdx?_eq_none_iff.1 hr c hm
      rw [this] at hp
      cases hp
theorem rcSize_own (nm : List UInt8) : decide (0 < rcSize (rcIdx nm)) = isOwn nm := by
  rw [← rcIdx_own]
  cases rcIdx nm with
  | none => rfl
  | some k =>
    show decide (0 < if 5 < k then (2 : Int) else 1) = true
    split <;> rfl
def rcNameV : Array Value := #[.string ⟨#[97, 108, 112, 104, 97]⟩, .string ⟨#[117, 112, 112, 101, 114]⟩, .string ⟨#[108, 111, 119, 101, 114]⟩, .string ⟨#[100, 105, 103, 105, 116]⟩, .string ⟨#[97, 108, 110, 117, 109]⟩, .string ⟨#[120, 100, 105, 103, 105, 116]⟩, .string ⟨#[114, 101, 103, 105, 111, 110]⟩, .string ⟨#[108, 97, 110, 103]⟩]
def rcAmongV : Array Value := #[.string ⟨#[97, 98, 99, 100, 101, 102, 103, 104, 105, 106, 107, 108, 109, 110, 111, 112, 113, 114, 115, 116, 117, 118, 119, 120, 121, 122, 65, 66, 67, 68, 69, 70, 71, 72, 73, 74, 75, 76, 77, 78, 79, 80, 81, 82, 83, 84, 85, 86, 87, 88, 89, 90]⟩, .string ⟨#[65, 66, 67, 68, 69, 70, 71, 72, 73, 74, 75, 76, 77, 78, 79, 80, 81, 82, 83, 84, 85, 86, 87, 88, 89, 90]⟩, .string ⟨#[97, 98, 99, 100, 101, 102, 103, 104, 105, 106, 107, 108, 109, 110, 111, 112, 113, 114, 115, 116, 117, 118, 119, 120, 121, 122]⟩, .string ⟨#[48, 49, 50, 51, 52, 53, 54, 55, 56, 57]⟩, .string ⟨#[97, 98, 99, 100, 101, 102, 103, 104, 105, 106, 107, 108, 109, 110, 111, 112, 113, 114, 115, 116, 117, 118, 119, 120, 121, 122, 65, 66, 67, 68, 69, 70, 71, 72, 73, 74, 75, 76, 77, 78, 79, 80, 81, 82, 83, 84, 85, 86, 87, 88, 89, 90, 48, 49, 50, 51, 52, 53, 54, 55, 56, 57]⟩, .string ⟨#[48, 49, 50, 51, 52, 53, 54, 55, 56, 57, 97, 98, 99, 100, 101, 102, 65, 66, 67, 68, 69, 70]⟩, .string ⟨#[65, 66, 67, 68, 69, 70, 71, 72, 73, 74, 75, 76, 77, 78, 79, 80, 81, 82, 83, 84, 85, 86, 87, 88, 89, 90]⟩, .string ⟨#[97, 98, 99, 100, 101, 102, 103, 104, 105, 106, 107, 108, 109, 110, 111, 112, 113, 114, 115, 116, 117, 118, 119, 120, 121, 122]⟩]
theorem rcName_at : ∀ k, k < 8 → rcNameV[k]? = some (.string (T (clAt k).name))
  | 0, _ | 1, _ | 2, _ | 3, _ | 4, _ | 5, _ | 6, _ | 7, _ => rfl
  | n + 8, h => by omega
theorem rcAmong_at : ∀ k, k < 8 → rcAmongV[k]? = some (.string (T (rcAt k)))
  | 0, _ | 1, _ | 2, _ | 3, _ | 4, _ | 5, _ | 6, _ | 7, _ => rfl
  | n + 8, h => by omega
theorem rc_world (w : World) : ∃ W, Hid ((w.alloc (.cells #[.string ⟨#[97, 108, 112, 104, 97]⟩, .string ⟨#[117, 112, 112, 101, 114]⟩, .string ⟨#[108, 111, 119, 101, 114]⟩, .string ⟨#[100, 105, 103, 105, 116]⟩, .string ⟨#[97, 108, 110, 117, 109]⟩, .string ⟨#[120, 100, 105, 103, 105, 116]⟩, .string ⟨#[114, 101, 103, 105, 111, 110]⟩, .string ⟨#[108, 97, 110, 103]⟩] 9)).alloc (.cells #[.string ⟨#[97, 98, 99, 100, 101, 102, 103, 104, 105, 106, 107, 108, 109, 110, 111, 112, 113, 114, 115, 116, 117, 118, 119, 120, 121, 122, 65, 66, 67, 68, 69, 70, 71, 72, 73, 74, 75, 76, 77, 78, 79, 80, 81, 82, 83, 84, 85, 86, 87, 88, 89, 90]⟩, .string ⟨#[65, 66, 67, 68, 69, 70, 71, 72, 73, 74, 75, 76, 77, 78, 79, 80, 81, 82, 83, 84, 85, 86, 87, 88, 89, 90]⟩, .string ⟨#[97, 98, 99, 100, 101, 102, 103, 104, 105, 106, 107, 108, 109, 110, 111, 112, 113, 114, 115, 116, 117, 118, 119, 120, 121, 122]⟩, .string ⟨#[48, 49, 50, 51, 52, 53, 54, 55, 56, 57]⟩, .string ⟨#[97, 98, 99, 100, 101, 102, 103, 104, 105, 106, 107, 108, 109, 110, 111, 112, 113, 114, 115, 116, 117, 118, 119, 120, 121, 122, 65, 66, 67, 68, 69, 70, 71, 72, 73, 74, 75, 76, 77, 78, 79, 80, 81, 82, 83, 84, 85, 86, 87, 88, 89, 90, 48, 49, 50, 51, 52, 53, 54, 55, 56, 57]⟩, .string ⟨#[48, 49, 50, 51, 52, 53, 54, 55, 56, 57, 97, 98, 99, 100, 101, 102, 65, 66, 67, 68, 69, 70]⟩, .string ⟨#[65, 66, 67, 68, 69, 70, 71, 72, 73, 74, 75, 76, 77, 78, 79, 80, 81, 82, 83, 84, 85, 86, 87, 88, 89, 90]⟩, .string ⟨#[97, 98, 99, 100, 101, 102, 103, 104, 105, 106, 107, 108, 109, 110, 111, 112, 113, 114, 115, 116, 117, 118, 119, 120, 121, 122]⟩] 9) = W) ∧ Hid ((∀ k, k < 8 → W.cell? ⟨w.heap.size, k, none⟩ = some (.string (T (clAt k).name))) ∧ (∀ k, k < 8 → W.cell? ⟨w.heap.size + 1, k, none⟩ = some (.string (T (rcAt k)))) ∧ Below w.heap.size w W) := by
  refine ⟨(w.alloc (.cells rcNameV 9)).alloc (.cells rcAmongV 9), rfl, fun k hk => ?_, fun k hk => ?_, ?_⟩
  · have h1 : (w.alloc (.cells rcNameV 9)).heap[w.heap.size]? = some (.cells rcNameV 9 (0, 0)) := heap_alloc_new w _
    have h2 := (Below.heap_alloc (w.alloc (.cells rcNameV 9)) (.cells rcAmongV 9) w.heap.size (by simp)).trans h1
    exact cell_of_heap h2 (rcName_at k hk)
  · have h1 := heap_alloc_new (w.alloc (.cells rcNameV 9)) (.cells rcAmongV 9)
    rw [World.size_alloc] at h1
    exact cell_of_heap h1 (rcAmong_at k hk)
  · exact ((Below.refl _ _).alloc (Nat.le_refl _) _).alloc (by simp) _

set_option maxRecDepth 100000 in
set_option maxHeartbeats 4000000 in
theorem rclass_any (nm : List UInt8) (w : World) :
    Calls Tryz.prog 19 #[.string (T nm)] w fun e w' => e = .returned (.tuple #[.string (rcChars (rcIdx nm)), .int .i64 (rcSize (rcIdx nm))]) ∧ Below w.heap.size w w' := by
  obtain ⟨W, HW, HF⟩ := rc_world w
  go_enter Tryz.func19, Tryz.ntmps19
  go_wp2_with fail
  rw [HW.out]
  clear HW
  go_loopg [6] 8 (fun g t wr => ∃ k : Nat, t = .int .i64 k ∧ g + k = 8 ∧ Hid (∀ j, j < k → (clTab.getD j noCl).name ≠ nm) ∧ W = wr)
  case atStart => exact ⟨0, rfl, rfl, (fun j hj => absurd hj (Nat.not_lt_zero _)), rfl⟩
  case round =>
    obtain ⟨k, rfl, hg, hA, rfl⟩ := hrel
    have y0 : (0 : Int) ≤ (k : Int) := by omega
    by_cases hlt : k < 8
    · have y1 : (k : Int) < 8 := by omega
      have c0 := HF.out.1 k hlt
      have c1 := HF.out.2.1 k hlt
      by_cases e : (clAt k).name = nm
      · have V : Hid (rcIdx nm = some k) := idx_from nm clTab k hA.out hlt e
        have e1 : ((T (clAt k).name).toList == (T nm).toList) = true := by rw [text_eq]; exact decide_eq_true e
        clear hA e
        have HV : Hid (rcChars (rcIdx nm) = T (rcAt k)) := by show _ = _; rw [V.out]; rfl
        generalize T (rcAt k) = x at *
        generalize (clAt k) = c at *
        by_cases h5 : 5 < k
        · have z0 : (5 : Int) < (k : Int) := by omega
          have HS : Hid (rcSize (rcIdx nm) = 2) := by show _ = _; rw [V.out]; exact if_pos h5
          clear h5
          go_wp2_with fail
          go_ret2
          exact ⟨by rw [HV.out, HS.out]; rfl, HF.out.2.2⟩
        · have z0 : (k : Int) ≤ 5 := by omega
          have HS : Hid (rcSize (rcIdx nm) = 1) := by show _ = _; rw [V.out]; exact if_neg h5
          clear h5
          go_wp2_with fail
          go_ret2
          exact ⟨by rw [HV.out, HS.out]; rfl, HF.out.2.2⟩
      · have e1 : ((T (clAt k).name).toList == (T nm).toList) = false := by rw [text_eq]; exact decide_eq_false e
        have NX : Hid (∀ j, j < k + 1 → (clTab.getD j noCl).name ≠ nm) := fun j hj => by
          rcases (show j < k ∨ j = k by omega) with h | rfl
          · exact hA.out j h
          · exact e
        clear hA e
        generalize (clAt k) = c at *
        go_wp2_with fail
        go_roundg (gk - 1)
        case measure => omega
        case rel => exact ⟨k + 1, by go_num, by omega, NX, rfl⟩
    · obtain rfl : k = 8 := by omega
      have V : Hid (rcIdx nm = none) := idx_none nm clTab hA.out
      clear hA
      go_wp2_with fail
      go_ret2
      exact ⟨by rw [V.out]; rfl, HF.out.2.2⟩
end Go.Proofs.YtafopoacnngaeaaGreatDoor.subst
