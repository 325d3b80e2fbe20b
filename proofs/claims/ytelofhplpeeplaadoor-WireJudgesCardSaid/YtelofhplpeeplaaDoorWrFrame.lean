/- A word for the frame of the law on responses: what a response that came in is. -/
import Derived.Test.YtelofhplpeeplaaDoorWrBlk
import Derived.Deep.Slices
import Derived.OpenShut
import Derived.ChangeShapes
import Derived.ChangeArms
set_option linter.unusedSimpArgs false
set_option linter.unusedVariables false
namespace Go.Proofs.YtelofhplpeeplaaDoor.wire
open Go.RowKit Go.ChangeShapes Go.WideShapes Go.Deep

theorem open_response {H : Type} {en : TypeId × Value → H} {W : World} {base : Nat} {spare : Nat → Bool} {held : Bool} {v : Value} {dd : DataW H} {p : List MemPlace}
    (h : DataW.Trod en Tryd.prog W base spare held 25 v dd p) : ∃ (id st : Int) (rd tm : Bool) (ty ca : ByteArray) (a : Option Addr) (n c : Nat), (ty.size ≤ maxLen ∧ n ≤ maxLen) ∧ v = .agg #[.int .u64 id, .int .i64 st, .bool rd, .bool tm, .string ty, .string ca, .slice a n c] := by
  obtain ⟨fuel, hf⟩ := h
  obtain ⟨l, hle⟩ : ∃ l, v.cells.toList = l := ⟨_, rfl⟩
  rw [hle] at hf
  have hc7 : Tryd.prog.cellsOf 25 = 7 := by kernel_rfl
  have hs1 : Tryd.prog.cellsOf 9 = 1 := by kernel_rfl
  have hi1 : Tryd.prog.cellsOf 3 = 1 := by kernel_rfl
  have hu1 : Tryd.prog.cellsOf 22 = 1 := by kernel_rfl
  have hb1 : Tryd.prog.cellsOf 4 = 1 := by kernel_rfl
  have hy1 : Tryd.prog.cellsOf 23 = 1 := by kernel_rfl
  obtain ⟨ys, n', -, -, hlen, hyl, hg⟩ := DataW.trod_struct Tryd.underlying25 hf
  rw [hc7] at hlen
  have hyl : ys.length = 7 := hyl
  obtain ⟨v0, v1, v2, v3, v4, v5, v6, rfl⟩ : ∃ v0 v1 v2 v3 v4 v5 v6, l = [v0, v1, v2, v3, v4, v5, v6] := by
    clear hle hf hg
    rcases l with _ | ⟨v0, _ | ⟨v1, _ | ⟨v2, _ | ⟨v3, _ | ⟨v4, _ | ⟨v5, _ | ⟨v6, _ | ⟨v7, t⟩⟩⟩⟩⟩⟩⟩⟩ <;> first | exact ⟨_, _, _, _, _, _, _, rfl⟩ | (simp at hlen)
  have g0 : DataW.trod en Tryd.prog W base spare held n' 22 (([v0, v1, v2, v3, v4, v5, v6].drop 0).take (Tryd.prog.cellsOf 22)) = ys[0]? := hg 0 _ rfl
  have g1 : DataW.trod en Tryd.prog W base spare held n' 3 (([v0, v1, v2, v3, v4, v5, v6].drop 1).take (Tryd.prog.cellsOf 3)) = ys[1]? := hg 1 _ rfl
  have g2 : DataW.trod en Tryd.prog W base spare held n' 4 (([v0, v1, v2, v3, v4, v5, v6].drop 2).take (Tryd.prog.cellsOf 4)) = ys[2]? := hg 2 _ rfl
  have g3 : DataW.trod en Tryd.prog W base spare held n' 4 (([v0, v1, v2, v3, v4, v5, v6].drop 3).take (Tryd.prog.cellsOf 4)) = ys[3]? := hg 3 _ rfl
  have g4 : DataW.trod en Tryd.prog W base spare held n' 9 (([v0, v1, v2, v3, v4, v5, v6].drop 4).take (Tryd.prog.cellsOf 9)) = ys[4]? := hg 4 _ rfl
  have g5 : DataW.trod en Tryd.prog W base spare held n' 9 (([v0, v1, v2, v3, v4, v5, v6].drop 5).take (Tryd.prog.cellsOf 9)) = ys[5]? := hg 5 _ rfl
  have g6 : DataW.trod en Tryd.prog W base spare held n' 23 (([v0, v1, v2, v3, v4, v5, v6].drop 6).take (Tryd.prog.cellsOf 23)) = ys[6]? := hg 6 _ rfl
  rw [hu1, List.getElem?_eq_getElem (by omega)] at g0
  rw [hi1, List.getElem?_eq_getElem (by omega)] at g1
  rw [hb1, List.getElem?_eq_getElem (by omega)] at g2 g3
  rw [hs1, List.getElem?_eq_getElem (by omega)] at g4 g5
  rw [hy1, List.getElem?_eq_getElem (by omega)] at g6
  obtain ⟨n0, e0, -, -⟩ := DataW.trod_int Tryd.underlying22 g0
  obtain ⟨n1, e1, -, -⟩ := DataW.trod_int Tryd.underlying3 g1
  obtain ⟨n2, e2, -⟩ := DataW.trod_bool Tryd.underlying4 g2
  obtain ⟨n3, e3, -⟩ := DataW.trod_bool Tryd.underlying4 g3
  obtain ⟨n4, e4, -, s4⟩ := DataW.trod_string Tryd.underlying9 g4
  obtain ⟨n5, e5, -, -⟩ := DataW.trod_string Tryd.underlying9 g5
  obtain ⟨a, n, c, e6, hn⟩ : ∃ (a : Option Addr) (n c : Nat), v6 = .slice a n c ∧ n ≤ maxLen := by
    rcases open_slice Tryd.underlying23 g6 with ⟨hcs, -⟩ | ⟨x, len, cap, m, k, D, Pl, hcs, -, hl, hm, -⟩
    · exact ⟨none, 0, 0, by simpa using hcs, Nat.zero_le _⟩
    · exact ⟨some x, len, cap, by simpa using hcs, Nat.le_trans hl hm⟩
  obtain rfl : v0 = .int .u64 n0 := by simpa using e0
  obtain rfl : v1 = .int .i64 n1 := by simpa using e1
  obtain rfl : v2 = .bool n2 := by simpa using e2
  obtain rfl : v3 = .bool n3 := by simpa using e3
  obtain rfl : v4 = .string n4 := by simpa using e4
  obtain rfl : v5 = .string n5 := by simpa using e5
  subst e6
  refine ⟨n0, n1, n2, n3, n4, n5, a, n, c, ⟨s4, hn⟩, ?_⟩
  have hs : v.cells.size = 7 := by
    have := congrArg List.length hle
    simpa using this
  cases v <;> first
    | (exfalso; simp [Value.cells] at hs; done)
    | (rename_i cs; simp only [Value.cells] at hle; rw [← hle])
end Go.Proofs.YtelofhplpeeplaaDoor.wire
