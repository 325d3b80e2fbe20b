/- ident.App as a whole: the name of a text, in memory of its own, or a fault. -/
import Derived.Test.YtmaigbfmbhknhaaDoorApp
import Derived.Deep.RegionHeld3
namespace Go.Proofs.YtmaigbfmbhknhaaDoor.ident
open Go.RowKit Go.Proofs.YtmaigbfmbhknhaaDoor.errs

theorem clone_any (s : ByteArray) (w : World) (hs : s.size ≤ 281474976710656) :
    Calls Tryd.prog 25 #[.string s] w fun e w' => e = .returned (.string s) ∧ Keeps w w' := by
  have C := Tryd.stringslite_Clone s w hs
  go_enter Tryd.func25, Tryd.ntmps25
  go_wp2_with (go_at_call 37; refine C.mono ?_; rintro e w' ⟨rfl, hb⟩)
  go_ret
  exact ⟨rfl, hb⟩

/-- Where a text is no app's name, and why. -/
def appBad (s : ByteArray) : Option (Int × Nat) := verdict 166 (decide (11 < s.size)) (canApp s) s.size 0

theorem verdict_none {most : Nat} {whole : Bool} {can : Nat → Bool} : ∀ {g i : Nat}, verdict most whole can g i = none → whole = true ∧ (∀ k, i ≤ k → k < i + g → k ≠ most ∧ can k = true)
  | 0, i, h => by
    rw [verdict_end] at h
    cases whole with
    | true => exact ⟨rfl, fun k h1 h2 => by omega⟩
    | false => simp at h
  | g + 1, i, h => by
    by_cases hm : i = most
    · rw [verdict_long hm] at h; cases h
    cases hc : can i with
    | false => rw [verdict_form hm hc] at h; cases h
    | true =>
      rw [verdict_on hm hc] at h
      obtain ⟨h1, h2⟩ := verdict_none h
      refine ⟨h1, fun k h3 h4 => ?_⟩
      by_cases e : k = i
      · subst e; exact ⟨hm, hc⟩
      · exact h2 k (by omega) (by omega)
theorem appBad_size {s : ByteArray} (h : appBad s = none) : 11 < s.size := by
  have := (verdict_none h).1
  simpa using this

def noApp (v : Value) : Value := .tuple #[.agg #[.string ⟨#[]⟩, .string ⟨#[]⟩], v]
/-- What ident.App answers. -/
def AppOut (s : ByteArray) (o : Option (Int × Nat)) (w : World) (e : Ending) (w' : World) : Prop :=
  match o with
  | none => e = .returned (.tuple #[.agg #[.string (s.extract 0 10), .string (s.extract 11 s.size)], .nilIface]) ∧ Keeps w w'
  | some (k, a) => Failed w e w' k a noApp

/-- The world when ident.App has laid its two blocks. -/
def appWorld (s : ByteArray) (w : World) : World := (w.alloc (.cells #[.string s] 9)).alloc (.cells #[.string ⟨#[]⟩, .string ⟨#[]⟩] 29)

/-- What stands between the two copies. -/
def AppHeld (s : ByteArray) (w w' : World) : Prop :=
  w'.cell? ⟨w.heap.size, 0, none⟩ = some (.string s) ∧ w'.cell? ⟨w.heap.size + 1, 0, none⟩ = some (.string ⟨#[]⟩) ∧ w'.cell? ⟨w.heap.size + 1, 1, none⟩ = some (.string ⟨#[]⟩) ∧ w'.frozen? ⟨w.heap.size + 1, 0, none⟩ = false ∧ w'.frozen? ⟨w.heap.size + 1, 1, none⟩ = false ∧ Keeps w w'
theorem AppHeld.step {s : ByteArray} {w w1 w2 : World} (h : AppHeld s w w1) (hk : Keeps w1 w2) : AppHeld s w w2 :=
  ⟨(hk.cell (p := ⟨w.heap.size, 0, none⟩) (lt_of_cell h.1)).trans h.1, (hk.cell (p := ⟨w.heap.size + 1, 0, none⟩) (lt_of_cell h.2.1)).trans h.2.1, (hk.cell (p := ⟨w.heap.size + 1, 1, none⟩) (lt_of_cell h.2.2.1)).trans h.2.2.1,
    (hk.frozen (p := ⟨w.heap.size + 1, 0, none⟩) (lt_of_cell h.2.1)).trans h.2.2.2.1, (hk.frozen (p := ⟨w.heap.size + 1, 1, none⟩) (lt_of_cell h.2.2.1)).trans h.2.2.2.2.1, h.2.2.2.2.2.step hk⟩

set_option maxHeartbeats 4000000 in
theorem app_any (s : ByteArray) (w : World) (hs : s.size ≤ 281474976710656) :
    Calls Tryd.prog 10 #[.string s] w fun e w' => AppOut s (appBad s) w e w' := by
  have b0 : Below w.heap.size w (appWorld s w) := ((Below.refl _ w).alloc (Nat.le_refl _) _).alloc (by simp) _
  have c1 : (appWorld s w).cell? ⟨w.heap.size, 0, none⟩ = some (.string s) := by
    unfold appWorld; rw [World.cell?_alloc_lt _ _ _ (by simp), World.cell?_alloc_at _ _ _ _ rfl]; rfl
  have c2 : (appWorld s w).cell? ⟨w.heap.size + 1, 0, none⟩ = some (.string ⟨#[]⟩) := by
    unfold appWorld; rw [World.cell?_alloc_at _ _ _ _ (by simp)]; rfl
  have c3 : (appWorld s w).cell? ⟨w.heap.size + 1, 1, none⟩ = some (.string ⟨#[]⟩) := by
    unfold appWorld; rw [World.cell?_alloc_at _ _ _ _ (by simp)]; rfl
  have f2 : (appWorld s w).frozen? ⟨w.heap.size + 1, 0, none⟩ = false := by
    unfold appWorld; rw [World.frozen?_alloc_at _ _ _ _ (by simp)]
  have f3 : (appWorld s w).frozen? ⟨w.heap.size + 1, 1, none⟩ = false := by
    unfold appWorld; rw [World.frozen?_alloc_at _ _ _ _ (by simp)]
  have R := read_any s 166 (decide (11 < s.size)) 23 w.heap.size (canApp s) (appWorld s w) (enters_of Tryd.func23 (by kernel_rfl) rfl)
    (fun k hk W hK => app1_any s k w.heap.size W ((hK.out.cell (p := ⟨w.heap.size, 0, none⟩) (lt_of_cell c1)).trans c1) hk (by omega)) (by omega)
  rw [show verdict 166 (decide (11 < s.size)) (canApp s) s.size 0 = appBad s from rfl] at R
  have R : Calls Tryd.prog 22 #[.string s, .int .i64 166, .bool (decide ((11 : Int) < (s.size : Int))), .func (.func 23) #[] #[.pointer (some ⟨w.heap.size, 0, none⟩)]] (appWorld s w) fun e w' => ReadOut (appBad s) (appWorld s w) e w' := by
    rw [show decide ((11 : Int) < (s.size : Int)) = decide (11 < s.size) by rw [decide_eq_decide]; omega]
    exact R
  obtain ⟨t, ht⟩ : ∃ t, t = decide ((11 : Int) < (s.size : Int)) := ⟨_, rfl⟩
  have A : Aside (Below w.heap.size w (appWorld s w) ∧ (appWorld s w).cell? ⟨w.heap.size, 0, none⟩ = some (.string s) ∧ (appWorld s w).cell? ⟨w.heap.size + 1, 0, none⟩ = some (.string ⟨#[]⟩) ∧ (appWorld s w).cell? ⟨w.heap.size + 1, 1, none⟩ = some (.string ⟨#[]⟩) ∧ (appWorld s w).frozen? ⟨w.heap.size + 1, 0, none⟩ = false ∧ (appWorld s w).frozen? ⟨w.heap.size + 1, 1, none⟩ = false) := ⟨b0, c1, c2, c3, f2, f3⟩
  clear b0 c1 c2 c3 f2 f3 ht t
  cases ho : appBad s with
  | some ka =>
    obtain ⟨k, a⟩ := ka
    rw [ho] at R
    replace R := R.mono Failed.bare
    obtain ⟨W, hW⟩ : ∃ W, W = appWorld s w := ⟨_, rfl⟩
    rw [← hW] at R A
    unfold appWorld at hW
    replace hW := Lib.hid hW
    clear ho
    go_enter Tryd.func10, Tryd.ntmps10
    go_wp2_with fail
    rw [← hW.out]
    refine R.mono ?_; rintro e w1 ⟨bb, rfl, hF⟩
    have d2 : w1.cell? ⟨w.heap.size + 1, 0, none⟩ = some (.string ⟨#[]⟩) := (hF.out.2.cell (p := ⟨w.heap.size + 1, 0, none⟩) (lt_of_cell A.out.2.2.1)).trans A.out.2.2.1
    have d3 : w1.cell? ⟨w.heap.size + 1, 1, none⟩ = some (.string ⟨#[]⟩) := (hF.out.2.cell (p := ⟨w.heap.size + 1, 1, none⟩) (lt_of_cell A.out.2.2.2.1)).trans A.out.2.2.2.1
    have z2 : w1.frozen? ⟨w.heap.size + 1, 0, none⟩ = false := (hF.out.2.frozen (p := ⟨w.heap.size + 1, 0, none⟩) (lt_of_cell A.out.2.2.1)).trans A.out.2.2.2.2.1
    have z3 : w1.frozen? ⟨w.heap.size + 1, 1, none⟩ = false := (hF.out.2.frozen (p := ⟨w.heap.size + 1, 1, none⟩) (lt_of_cell A.out.2.2.2.1)).trans A.out.2.2.2.2.2
    go_wp2_with fail
    have b1 : Below w.heap.size w w1 := A.out.1.trans (hF.out.2.mono A.out.1.size)
    have g1 := FaultAt.setCell (p := ⟨w.heap.size + 1, 0, none⟩) hF.out.1 d2 (fun n e => by cases e) (.string ⟨#[]⟩)
    have g2 := FaultAt.setCell (p := ⟨w.heap.size + 1, 1, none⟩) g1 (World.cell?_setCell_same' _ ⟨w.heap.size + 1, 0, none⟩ (.string ⟨#[]⟩) (by rw [d2]; rfl)) (fun n e => by cases e) (.string ⟨#[]⟩)
    exact bodyPost_ret (v := noApp (.iface 51 (.pointer (some ⟨bb, 0, none⟩)))) (by simp [results, Tryd.results10, go_sem, d2, d3, noApp]) rfl ⟨_, rfl, g2, (b1.setCell (by simp) _).setCell (by simp) _⟩
  | none =>
    rw [ho] at R
    replace R : Calls Tryd.prog 22 #[.string s, .int .i64 166, .bool (decide ((11 : Int) < (s.size : Int))), .func (.func 23) #[] #[.pointer (some ⟨w.heap.size, 0, none⟩)]] (appWorld s w) fun e w' => e = .returned .nilIface ∧ Keeps (appWorld s w) w' := R
    have hn : 11 < s.size := appBad_size ho
    obtain ⟨W, hW⟩ : ∃ W, W = appWorld s w := ⟨_, rfl⟩
    rw [← hW] at R A
    unfold appWorld at hW
    replace hW := Lib.hid hW
    have y0 : (11 : Int) < (s.size : Int) := by omega
    rw [show decide ((11 : Int) < (s.size : Int)) = true from decide_eq_true y0] at R
    clear ho
    have q1 : (s.extract 0 10).size ≤ 281474976710656 := by rw [ByteArray.size_extract]; omega
    have q2 : (s.extract 11 s.size).size ≤ 281474976710656 := by rw [ByteArray.size_extract]; omega
    have CT : ∀ t w', t.size ≤ 281474976710656 → AppHeld s w w' → Calls Tryd.prog 25 #[.string t] w' fun e w'' => e = .returned (.string t) ∧ Aside (AppHeld s w w'') ∧ AppHeld s w w'' := fun t w' ht hh => (clone_any t w' ht).mono fun e w'' ⟨h1, h2⟩ => ⟨h1, hh.step h2, hh.step h2⟩
    go_enter Tryd.func10, Tryd.ntmps10
    go_wp2_with fail
    rw [← hW.out]
    refine R.mono ?_; rintro e w1 ⟨rfl, hk⟩
    have d1 : w1.cell? ⟨w.heap.size, 0, none⟩ = some (.string s) := (hk.cell (p := ⟨w.heap.size, 0, none⟩) (lt_of_cell A.out.2.1)).trans A.out.2.1
    have d2 : w1.cell? ⟨w.heap.size + 1, 0, none⟩ = some (.string ⟨#[]⟩) := (hk.cell (p := ⟨w.heap.size + 1, 0, none⟩) (lt_of_cell A.out.2.2.1)).trans A.out.2.2.1
    have d3 : w1.cell? ⟨w.heap.size + 1, 1, none⟩ = some (.string ⟨#[]⟩) := (hk.cell (p := ⟨w.heap.size + 1, 1, none⟩) (lt_of_cell A.out.2.2.2.1)).trans A.out.2.2.2.1
    have z2 : w1.frozen? ⟨w.heap.size + 1, 0, none⟩ = false := (hk.frozen (p := ⟨w.heap.size + 1, 0, none⟩) (lt_of_cell A.out.2.2.1)).trans A.out.2.2.2.2.1
    have z3 : w1.frozen? ⟨w.heap.size + 1, 1, none⟩ = false := (hk.frozen (p := ⟨w.heap.size + 1, 1, none⟩) (lt_of_cell A.out.2.2.2.1)).trans A.out.2.2.2.2.2
    have b1 : Keeps w w1 := A.out.1.trans (hk.mono A.out.1.size)
    go_wp2_with fail
    have i1 : (10 : Int) ≤ (s.size : Int) := by omega
    have i2 : (11 : Int) ≤ (s.size : Int) := by omega
    have i3 : 10 ≤ s.size := by omega
    have i4 : 11 ≤ s.size := by omega
    have b1' : Keeps w w1.drew := Below.drew b1
    have H1 : Aside (AppHeld s w w1.drew) := ⟨d1, d2, d3, z2, z3, b1'⟩
    go_region_held3 (fun w' => w'.cell? ⟨w.heap.size, 0, none⟩ = some (.string s)) (first | exact H1.out.1 | exact t0.out.1 | (rw [World.cell?_setCell_other _ _ _ _ (by simp), World.cell?_setCell_other _ _ _ _ (by simp)]; assumption)) ((go_at_call 25; refine (CT _ _ (by first | exact q1 | exact q2) (by first | exact t0.out | exact H1.out)).mono ?_; rintro e w' ⟨rfl, t0, t1, t2, t3, t4, t5, t6⟩))
    go_wp2_with fail
    exact bodyPost_ret (v := .tuple #[.agg #[.string (s.extract 0 10), .string (s.extract 11 s.size)], .nilIface]) (by simp [results, Tryd.results10, go_sem, t2, t3]) rfl ⟨rfl, (t6.setCell (by simp) _).setCell (by simp) _⟩
end Go.Proofs.YtmaigbfmbhknhaaDoor.ident
