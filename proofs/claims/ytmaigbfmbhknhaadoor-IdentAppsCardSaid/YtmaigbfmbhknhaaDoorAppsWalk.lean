/- The walk of the law on Apple's apps' names: for any text it returns true, and what was there stays. -/
import Derived.Test.YtmaigbfmbhknhaaDoorSpeaksI
import Derived.Test.YtmaigbfmbhknhaaDoorAppMath
namespace Go.Proofs.YtmaigbfmbhknhaaDoor.identApps
open Go.RowKit Go.Proofs.YtmaigbfmbhknhaaDoor.errs Go.Proofs.YtmaigbfmbhknhaaDoor.ident

theorem cell_new0 (w : World) (x y : Value) (T : TypeId) : (w.alloc (.cells #[x, y] T)).cell? ⟨w.heap.size, 0, none⟩ = some x := by rw [World.cell?_alloc_at _ _ _ _ rfl]; rfl
theorem cell_new1 (w : World) (x y : Value) (T : TypeId) : (w.alloc (.cells #[x, y] T)).cell? ⟨w.heap.size, 1, none⟩ = some y := by rw [World.cell?_alloc_at _ _ _ _ rfl]; rfl
theorem keeps_new (w : World) (o : Obj) : Keeps w (w.alloc o) := (Below.refl _ _).alloc (Nat.le_refl _) _

set_option maxHeartbeats 4000000 in
theorem law (s : ByteArray) (w : World) (_w0 : s.size ≤ maxLen) (hL : Laid w) :
    Calls Tryd.prog 4 #[.string s] w fun e w' => e = .returned (.bool true) ∧ Below w.heap.size w w' := by
  have S := speaks_any w hL
  have H : Aside (Laid w) := hL
  clear hL _w0
  by_cases hbig : 1000 < s.size
  · have x1 : (1000 : Int) < (s.size : Int) := by omega
    go_enter Tryd.func4, Tryd.ntmps4
    go_wp2_with fail
    refine S.mono ?_; rintro e w1 ⟨rfl, k1⟩
    go_wp2_with fail
    go_ret
    exact ⟨rfl, k1⟩
  have x1 : (s.size : Int) ≤ 1000 := by omega
  have A : ∀ w', Keeps w w' → Calls Tryd.prog 10 #[.string s] w' fun e w'' => AppOut s (appBad s) w' e w'' := fun w' _ => app_any s w' (by omega)
  cases ho : appBad s with
  | some ka =>
    obtain ⟨k, a⟩ := ka
    rw [ho] at A
    have A : ∀ w', Keeps w w' → Calls Tryd.prog 10 #[.string s] w' fun e w'' => ∃ bb, e = .returned (.tuple #[.agg #[.string ⟨#[]⟩, .string ⟨#[]⟩], .iface 51 (.pointer (some ⟨bb, 0, none⟩))]) ∧ Keeps w w'' := fun w' hk =>
      (A w' hk).mono fun e w'' ⟨v, h1, ⟨bb, h2, _⟩, h3⟩ => by
        subst h2
        exact ⟨bb, h1, hk.step h3⟩
    clear ho
    go_enter Tryd.func4, Tryd.ntmps4
    go_wp2_with fail
    refine S.mono ?_; rintro e w1 ⟨rfl, k1⟩
    go_wp2_with fail
    refine (A w1 k1).mono ?_; rintro e w2 ⟨bb, rfl, k2⟩
    go_wp2_with fail
    go_ret
    exact ⟨rfl, k2.step ((Below.refl _ _).alloc (Nat.le_refl _) _)⟩
  | none =>
    rw [ho] at A
    obtain ⟨h1, -, -⟩ := app_all ho
    obtain ⟨km, am, hm⟩ := app_more ho
    have hc := app_cut ho
    have htx := app_text ho
    have M : ∀ w', Keeps w w' → Calls Tryd.prog 10 #[.string (s ++ ⟨#[33]⟩)] w' fun e w'' => ∃ bb, e = .returned (.tuple #[.agg #[.string ⟨#[]⟩, .string ⟨#[]⟩], .iface 51 (.pointer (some ⟨bb, 0, none⟩))]) ∧ Keeps w' w'' := fun w' hk => by
      have := app_any (s ++ ⟨#[33]⟩) w' (by rw [ByteArray.size_append]; have : (⟨#[33]⟩ : ByteArray).size = 1 := rfl; omega)
      rw [hm] at this
      exact this.mono fun e w'' ⟨v, h1, ⟨bb, h2, _⟩, h3⟩ => by
        subst h2
        exact ⟨bb, h1, h3⟩
    have C : ∀ w', Keeps w w' → Calls Tryd.prog 10 #[.string (s.extract 0 10)] w' fun e w'' => ∃ bb, e = .returned (.tuple #[.agg #[.string ⟨#[]⟩, .string ⟨#[]⟩], .iface 51 (.pointer (some ⟨bb, 0, none⟩))]) ∧ Aside (FaultAt w'' (.iface 51 (.pointer (some ⟨bb, 0, none⟩))) 10 10 .nilIface ∧ Keeps w' w'') := fun w' hk => by
      have := app_any (s.extract 0 10) w' (by rw [ByteArray.size_extract]; omega)
      rw [hc] at this
      exact this.mono fun e w'' ⟨v, h1, ⟨bb, h2, h4⟩, h3⟩ => by
        subst h2
        exact ⟨bb, h1, ⟨bb, rfl, h4⟩, h3⟩
    have A : ∀ w', Keeps w w' → Calls Tryd.prog 10 #[.string s] w' fun e w'' => e = .returned (.tuple #[.agg #[.string (s.extract 0 10), .string (s.extract 11 s.size)], .nilIface]) ∧ Keeps w' w'' := A
    have T : ∀ w', Calls Tryd.prog 11 #[.agg #[.string (s.extract 0 10), .string (s.extract 11 s.size)]] w' fun e w'' => e = .returned (.string s) ∧ Keeps w' w'' := fun w' => by
      have := apptext_any (s.extract 0 10) (s.extract 11 s.size) w' (by rw [ByteArray.size_extract]; omega) (by rw [ByteArray.size_extract]; omega)
      rw [htx] at this
      exact this
    have s1 : (s.extract 0 10).size = 10 := by rw [ByteArray.size_extract]; omega
    have s2 : (s.extract 11 s.size).size = s.size - 11 := by rw [ByteArray.size_extract]; omega
    obtain ⟨t, ht⟩ : ∃ t, Hid (s.extract 0 10 = t) := ⟨_, rfl⟩
    obtain ⟨b, hb⟩ : ∃ b, Hid (s.extract 11 s.size = b) := ⟨_, rfl⟩
    rw [ht.out] at A T s1
    rw [hb.out] at A T s2
    have y1 : ((t.size : Int) == 10) = true := beq_iff_eq.2 (by omega)
    have y2 : ((b.size : Int) == (s.size : Int) - 11) = true := beq_iff_eq.2 (by omega)
    have y3 : (10 : Int) ≤ (s.size : Int) := by omega
    have y4 : (0 : Int) ≤ (s.size : Int) - 11 := by omega
    have y5 : 10 ≤ s.size := by omega
    clear ho hm hc htx s1 s2 hbig h1
    go_enter Tryd.func4, Tryd.ntmps4
    go_wp2_with fail
    refine S.mono ?_; rintro e w1 ⟨rfl, k1⟩
    go_wp2_with fail
    refine (A w1 k1).mono ?_; rintro e w2 ⟨rfl, k2⟩
    have K2 : Keeps w w2 := k1.step k2
    go_wp2_with fail
    have e0 := cell_new0 w2 (.string t) (.string b) 29
    have e1 := cell_new1 w2 (.string t) (.string b) 29
    have K3 := K2.step (keeps_new w2 (.cells #[.string t, .string b] 29))
    generalize w2.alloc (.cells #[.string t, .string b] 29) = W at e0 e1 K3 ⊢
    generalize w2.heap.size = B at e0 e1 ⊢
    clear k1 k2 K2 A
    refine (M W K3).mono ?_; rintro e w3 ⟨b3, rfl, k3⟩
    have k3' := k3.step (keeps_new w3 (.cells #[.string ⟨#[]⟩, .string ⟨#[]⟩] 29))
    have f0 := (k3'.cell (p := ⟨B, 0, none⟩) (lt_of_cell e0)).trans e0
    have f1 := (k3'.cell (p := ⟨B, 1, none⟩) (lt_of_cell e1)).trans e1
    have K4 := K3.step k3'
    clear k3' k3 e0 e1 K3
    go_wp2_with fail
    generalize w3.alloc (.cells #[.string ⟨#[]⟩, .string ⟨#[]⟩] 29) = W4 at f0 f1 K4 ⊢
    refine (C W4 K4).mono ?_; rintro e w5 ⟨b5, rfl, hF⟩
    have k6 := hF.out.2.step (keeps_new w5 (.cells #[.string ⟨#[]⟩, .string ⟨#[]⟩] 29))
    have g0 := (k6.cell (p := ⟨B, 0, none⟩) (lt_of_cell f0)).trans f0
    have g1 := (k6.cell (p := ⟨B, 1, none⟩) (lt_of_cell f1)).trans f1
    have K6 : Aside (Keeps w (w5.alloc (.cells #[.string ⟨#[]⟩, .string ⟨#[]⟩] 29))) := K4.step k6
    have F6 : Aside (FaultAt (w5.alloc (.cells #[.string ⟨#[]⟩, .string ⟨#[]⟩] 29)) (.iface 51 (.pointer (some ⟨b5, 0, none⟩))) 10 10 .nilIface) := hF.out.1.below (keeps_new w5 _) (Nat.le_refl _)
    clear k6 f0 f1 K4 M C
    go_wp2_with fail
    generalize w5.alloc (.cells #[.string ⟨#[]⟩, .string ⟨#[]⟩] 29) = W6 at g0 g1 K6 F6 ⊢
    refine (T W6).mono ?_; rintro e w7 ⟨rfl, k7⟩
    have h0 := (k7.cell (p := ⟨B, 0, none⟩) (lt_of_cell g0)).trans g0
    have h1 := (k7.cell (p := ⟨B, 1, none⟩) (lt_of_cell g1)).trans g1
    have E := has_any [10] _ 10 w7 ((F6.out.below k7 (Nat.le_refl _)).chain .nil)
    rw [show tells [10] 10 = true by decide] at E
    have K7 : Aside (Keeps w w7) := K6.out.step k7
    clear k7 g0 g1
    go_wp2_with (go_at_call 12; refine E.mono ?_; rintro e w' ⟨rfl, rfl⟩)
    go_ret
    exact ⟨rfl, K7.out⟩
end Go.Proofs.YtmaigbfmbhknhaaDoor.identApps
