/- Numbers of requests: each one once, none above how many were asked for. The script that came in. -/
import Derived.Test.YtelofhplpeeplaaDoorWrTake
set_option linter.unusedSimpArgs false
set_option linter.unusedVariables false
namespace Go.Proofs.YtelofhplpeeplaaDoor.wire
open Go.RowKit Go.Proofs.YtelofhplpeeplaaDoor.errs

/-- Each number stands once at most, and none is above N. -/
def GoodL (N : Nat) (L : List Rq) : Prop := (L.map Rq.id).Nodup ∧ ∀ x ∈ L, x.id ≤ N
theorem good_nil : GoodL 0 [] := ⟨List.nodup_nil, fun x hx => by cases hx⟩
theorem GoodL.filter {N : Nat} {L : List Rq} (h : GoodL N L) (p : Rq → Bool) : GoodL N (L.filter p) :=
  ⟨h.1.sublist (List.filter_sublist.map _), fun x hx => h.2 x (List.mem_filter.1 hx).1⟩
theorem GoodL.ask {N : Nat} {L : List Rq} (h : GoodL N L) (x : Rq) (t : Nat) : GoodL (N + 1) (L ++ [asked x (N + 1) t]) := by
  refine ⟨?_, fun y hy => ?_⟩
  · rw [List.map_append, List.nodup_append]
    refine ⟨h.1, by simp, fun a ha b hb => ?_⟩
    obtain ⟨y, hy, rfl⟩ := List.mem_map.1 ha
    have := h.2 y hy
    simp [asked] at hb
    omega
  · rcases List.mem_append.1 hy with hy | hy
    · have := h.2 y hy
      omega
    · rw [List.mem_singleton.1 hy]
      exact Nat.le_refl _
theorem filter_both (p : Rq → Bool) : ∀ L : List Rq, (L.filter p).length + (L.filter (fun x => !p x)).length = L.length
  | [] => rfl
  | x :: L => by
    have := filter_both p L
    cases hp : p x with
    | true =>
      rw [List.filter_cons_of_pos hp, List.filter_cons_of_neg (by rw [hp]; decide), List.length_cons, List.length_cons]
      omega
    | false =>
      rw [List.filter_cons_of_neg (by rw [hp]; decide), List.filter_cons_of_pos (by rw [hp]; rfl), List.length_cons, List.length_cons]
      omega
theorem hasId_iff (id : Nat) (x : Rq) : hasId id x = true ↔ x.id = id := by
  unfold hasId
  rw [beq_iff_eq]
  omega
theorem once {id : Nat} : ∀ L : List Rq, (L.map Rq.id).Nodup → (L.filter (hasId id)).length ≤ 1
  | [], _ => by simp
  | x :: L, h => by
    rw [List.map_cons, List.nodup_cons] at h
    by_cases hx : hasId id x = true
    · rw [List.filter_cons_of_pos hx]
      have : L.filter (hasId id) = [] := by
        rw [List.filter_eq_nil_iff]
        intro y hy hq
        refine h.1 ?_
        rw [(hasId_iff id x).1 hx, ← (hasId_iff id y).1 hq]
        exact List.mem_map.2 ⟨y, hy, rfl⟩
      rw [this]; simp
    · rw [List.filter_cons_of_neg hx]
      exact once L h.2
theorem again (id : Nat) (L : List Rq) : (L.filter (fun x => !hasId id x)).filter (fun x => (x.id : Int) == (id : Int)) = [] := by
  rw [List.filter_eq_nil_iff]
  intro y hy hq
  have := (List.mem_filter.1 hy).2
  have hq : hasId id y = true := hq
  rw [hq] at this
  cases this

/-- A call of the script. -/
structure OpR where
  kind : Int
  tick : Nat
  r : Rq
/-- The script that came in. -/
def IsScr (w : World) (a : Option Addr) (len cap : Nat) (f : Nat → OpR) : Prop :=
  len ≤ cap ∧ cap ≤ 9223372036854775807 ∧ (0 < len → ∃ b off, a = some ⟨b, off, none⟩ ∧ ∀ i, i < len → w.cell? ⟨b, off + i * 8, none⟩ = some (.int .i64 (f i).kind) ∧ w.cell? ⟨b, off + i * 8 + 1, none⟩ = some (.int .u64 ((f i).tick : Int)) ∧ w.cell? ⟨b, off + i * 8 + 2, none⟩ = some (.int .u64 ((f i).r.id : Int)) ∧ w.cell? ⟨b, off + i * 8 + 3, none⟩ = some (.string (f i).r.app) ∧ w.cell? ⟨b, off + i * 8 + 4, none⟩ = some (.bool (f i).r.apple) ∧ w.cell? ⟨b, off + i * 8 + 5, none⟩ = some (.int .i64 (f i).r.kind) ∧ w.cell? ⟨b, off + i * 8 + 6, none⟩ = some (.string (f i).r.text) ∧ w.cell? ⟨b, off + i * 8 + 7, none⟩ = some (.string (f i).r.url))
end Go.Proofs.YtelofhplpeeplaaDoor.wire
