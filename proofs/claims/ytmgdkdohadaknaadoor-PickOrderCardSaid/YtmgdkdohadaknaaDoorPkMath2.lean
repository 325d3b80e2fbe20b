/- Plain mathematics of the laws on order and on more candidates. -/
import Derived.Test.YtmgdkdohadaknaaDoorPkMath
set_option linter.unusedSimpArgs false
set_option linter.unusedVariables false
namespace Go.Proofs.YtmgdkdohadaknaaDoor.pick

theorem appsOf_ready {L : List Cd} (h : ∀ x ∈ L, ready x = true) : appsOf L = L.map Cd.app := by
  unfold appsOf
  rw [List.filter_eq_self.2 h]
theorem filter_ready (L : List Cd) : ∀ x ∈ L.filter ready, ready x = true := fun x hx => (List.mem_filter.1 hx).2
/-- Those that are ready alone give the same answer, where there are some. -/
theorem web_filter {L : List Cd} (h : L.filter ready ≠ []) : webA (L.filter ready) = webA L := by
  have e : appsOf (L.filter ready) = appsOf L := by rw [appsOf_ready (filter_ready L)]; rfl
  have hne : appsOf L ≠ [] := fun e => h (List.map_eq_nil_iff.1 e)
  unfold webA
  rw [e, if_neg hne, if_neg hne]
theorem web_custom {L : List Cd} (h : L.filter ready ≠ []) : customA (appsOf L) = webA L := by
  have hne : appsOf L ≠ [] := fun e => h (List.map_eq_nil_iff.1 e)
  unfold webA customA
  rw [if_neg hne, if_neg hne]
theorem web_none {L : List Cd} (h : L.filter ready = []) : (webA L).kind = 2 ∧ (webA L).apps = [] := by
  have e : appsOf L = [] := by unfold appsOf; rw [h]; rfl
  unfold webA
  rw [if_pos e]
  exact ⟨rfl, rfl⟩

/-- A candidate that is ready, and the same one switched off. -/
def onCd (id : ByteArray) : Cd := ⟨id, true, true, true, false⟩
def offCd (id : ByteArray) : Cd := ⟨id, true, true, true, true⟩
theorem apps_on (L : List Cd) (id : ByteArray) : appsOf (L ++ [onCd id]) = appsOf L ++ [id] := by rw [appsOf_snoc]; rfl
theorem apps_off (L : List Cd) (id : ByteArray) : appsOf (L ++ [offCd id]) = appsOf L := by rw [appsOf_snoc]; rfl
theorem web_apps (L : List Cd) : (webA L).apps = appsOf L := by
  unfold webA
  by_cases h : appsOf L = []
  · rw [if_pos h, h]
  · rw [if_neg h, opened_kind]
theorem web_on (L : List Cd) (id : ByteArray) : webA (L ++ [onCd id]) = opened (appsOf L ++ [id]) := by
  unfold webA
  rw [apps_on, if_neg (by simp)]
theorem web_on_kind (L : List Cd) (id : ByteArray) : (webA (L ++ [onCd id])).kind = if appsOf L = [] then 3 else 4 := by
  rw [web_on]
  unfold opened
  by_cases h : appsOf L = []
  · rw [if_pos h, h]; rfl
  · rw [if_neg h, if_neg (fun e => h (List.length_eq_zero_iff.1 (by rw [List.length_append] at e; simpa using e)))]
theorem web_off_none {L : List Cd} (id : ByteArray) (h : appsOf L = []) : webA (L ++ [offCd id]) = ⟨2, [], 7⟩ := by
  unfold webA
  rw [apps_off, if_pos h]
  unfold whyNone
  rw [any_snoc, show isOff (offCd id) = true from rfl, Bool.or_true, if_pos rfl]
theorem web_off_some {L : List Cd} (id : ByteArray) (h : appsOf L ≠ []) : webA (L ++ [offCd id]) = webA L := by
  unfold webA
  rw [apps_off, if_neg h, if_neg h]
end Go.Proofs.YtmgdkdohadaknaaDoor.pick
