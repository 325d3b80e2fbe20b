/- The tests that Take, Late and Drop hand to takeOut; takeOut for whatever book; New and Len. -/
import Derived.Test.YtelofhplpeeplaaDoorWrOut
import Derived.Laws.StructEq
import Derived.Deep.QuietTactic
import Derived.IntWalk
set_option linter.unusedSimpArgs false
set_option linter.unusedVariables false
namespace Go.Proofs.YtelofhplpeeplaaDoor.wire
open Go.RowKit Go.Proofs.YtelofhplpeeplaaDoor.errs

theorem new_any (w : World) : Calls Tryd.prog 12 #[] w fun e w' => e = .returned (.pointer (some ⟨w.heap.size, 0, none⟩)) ∧ w.alloc (.cells #[.int .u64 0, .slice none 0 0] 74) = w' := by
  go_enter Tryd.func12, Tryd.ntmps12
  go_wp2
  go_ret
  exact ⟨rfl, rfl⟩
theorem book_new (w : World) : Bk (w.alloc (.cells #[.int .u64 0, .slice none 0 0] 74)) w.heap.size w.heap.size (.slice none 0 0) 0 [] :=
  ⟨blk_new w _ _, Nat.le_refl _, World.ownsRow_nil _ _ _ _, fun e => by cases e⟩
theorem Bk.slice {w : World} {bb base : Nat} {v : Value} {N : Nat} {L : List Rq} (h : Bk w bb base v N L) : ∃ a c, v = .slice a L.length c := by
  rcases h.rows with ⟨rfl, rfl⟩ | ⟨g, cap, rfl, -⟩
  · exact ⟨_, _, rfl⟩
  · exact ⟨_, _, rfl⟩
theorem len_any (bb base : Nat) (v : Value) (N : Nat) (L : List Rq) (w : World) (hB : Bk w bb base v N L) :
    Calls Tryd.prog 22 #[.pointer (some ⟨bb, 0, none⟩)] w fun e w' => e = .returned (.int .i64 (L.length : Int)) ∧ w = w' := by
  obtain ⟨a, c, rfl⟩ := hB.slice
  have c1 := hB.blk.get 1
  simp only [List.getElem?_toArray, List.getElem?_cons_zero, List.getElem?_cons_succ] at c1
  generalize L.length = n at *
  clear hB
  go_enter Tryd.func22, Tryd.ntmps22
  go_wp2
  go_ret
  exact ⟨rfl, rfl⟩

theorem takeOut_any (gf : FuncId) (caps : Array Value) (p : Rq → Bool) (bb base N : Nat) (v : Value) (L : List Rq) (w : World) (hB : Bk w bb base v N L) (hn : L.length ≤ 100000)
    (eg : ∀ args w, (callFunc gf args).run Tryd.prog w = .ok (.enter gf args) w)
    (hcan : ∀ x ∈ L, ∀ W, Far bb v.ownBlock w W → Calls Tryd.prog gf (#[.agg (arr7 x)] ++ caps) W fun e w' => e = .returned (.bool (p x)) ∧ Below W.heap.size W w') :
    Calls Tryd.prog 31 #[.pointer (some ⟨bb, 0, none⟩), .func (.func gf) #[] caps] w (TakeOut p w bb base v N L) := by
  rcases hB.rows with ⟨rfl, rfl⟩ | ⟨g, cap, rfl, -⟩
  · exact takeOut_none gf caps p bb base N w hB
  · exact takeOut_some gf caps p bb base N g cap L w hB hn eg hcan

theorem test_id (x : Rq) (tb : Nat) (id : Int) (w : World) (h : w.cell? ⟨tb, 0, none⟩ = some (.int .u64 id)) :
    Calls Tryd.prog 35 #[.agg (arr7 x), .pointer (some ⟨tb, 0, none⟩)] w fun e w' => e = .returned (.bool ((x.id : Int) == id)) ∧ Below w.heap.size w w' := by
  have hl := lt_of_cell h
  obtain ⟨i, a, p, k, t, u, s⟩ := x
  go_enter Tryd.func35, Tryd.ntmps35
  go_wp2_with fail
  go_ret
  exact ⟨rfl, (Below.refl _ w).alloc (Nat.le_refl _) _⟩

/-- Has a request waited too long? -/
def late (now : Nat) (x : Rq) : Bool := decide (x.since + 120 ≤ now)
theorem test_late (x : Rq) (tb now : Nat) (w : World) (h : w.cell? ⟨tb, 0, none⟩ = some (.int .u64 (now : Int))) (hs : now ≤ 1000000) :
    Calls Tryd.prog 32 #[.agg (arr7 x), .pointer (some ⟨tb, 0, none⟩)] w fun e w' => e = .returned (.bool (late now x)) ∧ Below w.heap.size w w' := by
  have hl := lt_of_cell h
  obtain ⟨i, a, p, k, t, u, s⟩ := x
  unfold late
  simp only
  by_cases h1 : s ≤ now
  · have y1 : (s : Int) ≤ (now : Int) := by omega
    have hw : IntKind.u64.wrap ((now : Int) - (s : Int)) = (now : Int) - (s : Int) := IntWalk.u64_in _ (by omega)
    by_cases h2 : s + 120 ≤ now
    · have y2 : (120 : Int) ≤ (now : Int) - (s : Int) := by omega
      rw [decide_eq_true h2]
      clear h1 h2
      go_enter Tryd.func32, Tryd.ntmps32
      go_wp2_with fail
      go_ret
      exact ⟨rfl, (Below.refl _ w).alloc (Nat.le_refl _) _⟩
    · have y2 : ¬ (120 : Int) ≤ (now : Int) - (s : Int) := by omega
      rw [decide_eq_false h2]
      clear h1 h2
      go_enter Tryd.func32, Tryd.ntmps32
      go_wp2_with fail
      go_ret
      exact ⟨rfl, (Below.refl _ w).alloc (Nat.le_refl _) _⟩
  · have y1 : ¬ (s : Int) ≤ (now : Int) := by omega
    rw [decide_eq_false (show ¬ s + 120 ≤ now by omega)]
    clear h1
    go_enter Tryd.func32, Tryd.ntmps32
    go_wp2_with fail
    go_ret
    exact ⟨rfl, (Below.refl _ w).alloc (Nat.le_refl _) _⟩

/-- Is a request one of an app for a host? -/
def isFor (app : ByteArray) (kind : Int) (text : ByteArray) (x : Rq) : Bool := (x.app.toList == app.toList) && ((x.kind == kind) && (x.text.toList == text.toList))
set_option maxRecDepth 100000 in
theorem host_eql (k1 k2 : Int) (t1 t2 : ByteArray) (w : World) : (binOp .eql 43 (.agg #[.int .i64 k1, .string t1]) (.agg #[.int .i64 k2, .string t2])).run Tryd.prog w = .ok (.bool ((k1 == k2) && (t1.toList == t2.toList))) w := by
  have ht : Tryd.prog.underlying 43 = some (.struct (Tryd.prog.fieldsOf 43)) := by kernel_rfl
  have hp : Tryd.prog.stoodInHeld 43 = false := by kernel_rfl
  rw [run_eql_struct, show (10000 : Nat) = 9998 + 1 + 1 from rfl, run_equalIn_agg w (9998 + 1) _ _ _ ht hp]
  have hf : Tryd.prog.fieldsOf 43 = (match Tryd.prog.underlying 43 with | some (.struct fs) => fs | _ => #[]) := rfl
  rw [hf, Tryd.underlying43]
  have s1 := Tryd.underlying9
  have s2 := Tryd.underlying3
  cases hk : (k1 == k2) <;> cases hq : (t1.toList == t2.toList) <;> simp [Op.eqFields, part, isAgg, underlying, s1, s2, Result.andThen, run_equalIn_string, run_equalIn_int, hk, hq]
theorem test_for (x : Rq) (tb hb : Nat) (app text : ByteArray) (kind : Int) (w : World) (h : w.cell? ⟨tb, 0, none⟩ = some (.string app)) (h0 : w.cell? ⟨hb, 0, none⟩ = some (.int .i64 kind)) (h1 : w.cell? ⟨hb, 1, none⟩ = some (.string text)) :
    Calls Tryd.prog 34 #[.agg (arr7 x), .pointer (some ⟨tb, 0, none⟩), .pointer (some ⟨hb, 0, none⟩)] w fun e w' => e = .returned (.bool (isFor app kind text x)) ∧ Below w.heap.size w w' := by
  have hl := lt_of_cell h
  have hl0 := lt_of_cell h0
  obtain ⟨i, a, p, k, t, u, s⟩ := x
  have HE := fun w => host_eql k kind t text w
  unfold isFor
  simp only
  generalize ((k == kind) && (t.toList == text.toList)) = q2 at *
  obtain ⟨q1, hq⟩ : ∃ q1, (a.toList == app.toList) = q1 := ⟨_, rfl⟩
  rw [hq]
  cases q1 <;> cases q2
  all_goals
    go_enter Tryd.func34, Tryd.ntmps34
    go_wp2_with fail
    go_ret
    exact ⟨rfl, (Below.refl _ w).alloc (Nat.le_refl _) _⟩
end Go.Proofs.YtelofhplpeeplaaDoor.wire
