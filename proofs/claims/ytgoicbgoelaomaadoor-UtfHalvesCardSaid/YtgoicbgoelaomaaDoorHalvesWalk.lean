/- The walk of the law on halves: for any two numbers it returns true, and what was there stays. -/
import Derived.Test.YtgoicbgoelaomaaDoorSpeaks
import Derived.Test.YtgoicbgoelaomaaDoorHalf
namespace Go.Proofs.YtgoicbgoelaomaaDoor.utfHalves
open Go.RowKit Go.Proofs.YtgoicbgoelaomaaDoor.errs Go.Proofs.YtgoicbgoelaomaaDoor.utf Go.Proofs.YtgoicbgoelaomaaDoor.half

theorem one_whole (n l : Int) : ∃ c b, ∀ w : World,
    (Calls Tryd.prog 23 #[.int .i64 n, .int .i64 l] w fun e w' => e = .returned (.tuple #[.int .i64 c, .bool b]) ∧ w = w') ∧
    (Calls Tryd.prog 24 #[.int .i64 n, .int .i64 l] w fun e w' => e = .returned (.tuple #[.int .i64 c, .bool b]) ∧ w = w') := by
  by_cases h : isWhole n l
  · exact ⟨_, _, fun w => ⟨whole_yes n l w h, rwhole_yes n l w h⟩⟩
  · exact ⟨_, _, fun w => ⟨whole_no n l w h, rwhole_no n l w h⟩⟩

set_option maxHeartbeats 1000000 in
theorem law (n l : Int) (w : World) (_w0 : (Lit.int .i64 n).wf = true) (_w1 : (Lit.int .i64 l).wf = true) (hH : Tabs w ∧ Laid w) :
    Calls Tryd.prog 7 #[.int .i64 n, .int .i64 l] w fun e w' => e = .returned (.bool true) ∧ Below w.heap.size w w' := by
  have S := speaks_any w hH.1 hH.2
  obtain ⟨c, b, W⟩ := one_whole n l
  obtain ⟨k, hk⟩ : ∃ k, kindOf n = k := ⟨_, rfl⟩
  have H1 : ∀ w, Calls Tryd.prog 25 #[.int .i64 n] w fun e w' => e = .returned (.int .i64 k) ∧ w = w' := fun w => hk ▸ half_any n w
  have H2 : ∀ w, Calls Tryd.prog 26 #[.int .i64 n] w fun e w' => e = .returned (.int .i64 k) ∧ w = w' := fun w => hk ▸ rhalf_any n w
  clear hH _w0 _w1 hk
  by_cases h : 65536 ≤ n ∧ n < 1114112
  · have E := halves_yes n w
    have hw := isWhole_halves n h.1 h.2
    have he := wholeOf_halves n h.1 h.2
    have D : ∀ w, Calls Tryd.prog 27 #[.int .i64 n] w fun e w' => e = .returned (.tuple #[.int .i64 (highOf n), .int .i64 (lowOf n), .bool true]) ∧ w = w' := fun w => halves_yes n w h.1 h.2
    have R : ∀ w, Calls Tryd.prog 24 #[.int .i64 (highOf n), .int .i64 (lowOf n)] w fun e w' => e = .returned (.tuple #[.int .i64 n, .bool true]) ∧ w = w' := fun w => by
      have := rwhole_yes (highOf n) (lowOf n) w hw
      rwa [he] at this
    generalize highOf n = p at *
    generalize lowOf n = q at *
    clear E hw he
    obtain ⟨h1, h2⟩ := h
    go_enter Tryd.func7, Tryd.ntmps7
    go_wp2_with fail
    refine S.mono ?_; rintro e w1 ⟨rfl, hb⟩
    go_wp2_with fail
    refine (W w1).1.mono ?_; rintro e w' ⟨rfl, rfl⟩
    go_wp2_with fail
    refine (W w1).2.mono ?_; rintro e w' ⟨rfl, rfl⟩
    go_wp2_with (first | (go_at_call 25; refine (H1 _).mono ?_; rintro e w' ⟨rfl, rfl⟩) | (go_at_call 26; refine (H2 _).mono ?_; rintro e w' ⟨rfl, rfl⟩) | (go_at_call 27; refine (D _).mono ?_; rintro e w' ⟨rfl, rfl⟩) | (go_at_call 24; refine (R _).mono ?_; rintro e w' ⟨rfl, rfl⟩))
    go_ret
    exact ⟨rfl, hb⟩
  · have D : ∀ w, Calls Tryd.prog 27 #[.int .i64 n] w fun e w' => e = .returned (.tuple #[.int .i64 0, .int .i64 0, .bool false]) ∧ w = w' := fun w => halves_no n w (by omega)
    have h : n < 65536 ∨ 1114112 ≤ n := by omega
    rcases h with h | h
    all_goals
      go_enter Tryd.func7, Tryd.ntmps7
      go_wp2_with fail
      refine S.mono ?_; rintro e w1 ⟨rfl, hb⟩
      go_wp2_with fail
      refine (W w1).1.mono ?_; rintro e w' ⟨rfl, rfl⟩
      go_wp2_with fail
      refine (W w1).2.mono ?_; rintro e w' ⟨rfl, rfl⟩
      go_wp2_with (first | (go_at_call 25; refine (H1 _).mono ?_; rintro e w' ⟨rfl, rfl⟩) | (go_at_call 26; refine (H2 _).mono ?_; rintro e w' ⟨rfl, rfl⟩) | (go_at_call 27; refine (D _).mono ?_; rintro e w' ⟨rfl, rfl⟩))
      go_ret
      exact ⟨rfl, hb⟩
end Go.Proofs.YtgoicbgoelaomaaDoor.utfHalves
