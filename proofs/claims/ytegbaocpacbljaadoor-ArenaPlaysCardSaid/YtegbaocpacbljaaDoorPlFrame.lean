/- Words for the frame of the law on scripts: what a slice of calls that came in is. -/
import Derived.Test.YtegbaocpacbljaaDoorPlWalk
import Derived.Deep.Slices
import Derived.OpenShut
import Derived.ChangeShapes
namespace Go.Proofs.YtegbaocpacbljaaDoor.arenaPlays
open Go.RowKit Go.ChangeShapes Go.WideShapes Go.Deep

section
variable {H : Type} {en : TypeId × Value → H} {W : World} {base : Nat} {spare : Nat → Bool} {held : Bool}
theorem open_ops {a : Option Addr} {len cap : Nat} {d : DataW H} {p : List MemPlace} (h : DataW.Trod en Tryd.prog W base spare held 22 (.slice a len cap) d p) : ∃ (ups vs : Nat → Int) (ss : Nat → Bool), IsOps W a len cap ups vs ss := by
  obtain ⟨fuel, hf⟩ := h
  have hc3 : Tryd.prog.cellsOf 31 = 3 := by kernel_rfl
  have hi1 : Tryd.prog.cellsOf 3 = 1 := by kernel_rfl
  have hb1 : Tryd.prog.cellsOf 4 = 1 := by kernel_rfl
  rcases open_slice Tryd.underlying22 hf with ⟨hcs, -⟩ | ⟨x, l, c, m, n, D, Pl, hcs, -, hl, hm, hmm, -, hi⟩
  · simp [Value.cells] at hcs
    obtain ⟨rfl, rfl, rfl⟩ := hcs
    exact ⟨fun _ => 0, fun _ => 0, fun _ => false, Nat.le_refl _, by omega, fun h => absurd h (by decide)⟩
  · simp [Value.cells] at hcs
    obtain ⟨rfl, rfl, rfl⟩ := hcs
    have hlm : len ≤ m := by rw [hmm]; split <;> omega
    have each : ∀ i, i < len → ∃ q : Int × Int × Bool, W.cell? (x.add (i * 3 + 0)) = some (.int .i64 q.1) ∧ W.cell? (x.add (i * 3 + 1)) = some (.int .i64 q.2.1) ∧ W.cell? (x.add (i * 3 + 2)) = some (.bool q.2.2) := fun i hil => by
      obtain ⟨cs', h1, h2⟩ := hi i (by omega)
      rw [hc3] at h1
      obtain ⟨-, h3, h4⟩ := World.cells?_some h1
      obtain ⟨ys, n', -, -, hlen, hyl, hg⟩ := DataW.trod_struct Tryd.underlying31 h2
      rw [hc3] at hlen
      have hyl : ys.length = 3 := hyl
      obtain ⟨v0, v1, v2, rfl⟩ : ∃ v0 v1 v2, cs' = [v0, v1, v2] := by
        have hl3 : cs'.length = 3 := hlen
        clear h1 h2 h3 h4 hlen hg hi hf
        rcases cs' with _ | ⟨v0, _ | ⟨v1, _ | ⟨v2, _ | ⟨v3, t⟩⟩⟩⟩
        · exact absurd hl3 (by simp)
        · exact absurd hl3 (by simp)
        · exact absurd hl3 (by simp)
        · exact ⟨v0, v1, v2, rfl⟩
        · simp at hl3
      have g0 : DataW.trod en Tryd.prog W base spare held n' 3 (([v0, v1, v2].drop 0).take (Tryd.prog.cellsOf 3)) = ys[0]? := hg 0 _ rfl
      have g1 : DataW.trod en Tryd.prog W base spare held n' 3 (([v0, v1, v2].drop 1).take (Tryd.prog.cellsOf 3)) = ys[1]? := hg 1 _ rfl
      have g2 : DataW.trod en Tryd.prog W base spare held n' 4 (([v0, v1, v2].drop 2).take (Tryd.prog.cellsOf 4)) = ys[2]? := hg 2 _ rfl
      rw [hi1, List.getElem?_eq_getElem (by omega)] at g0 g1
      rw [hb1, List.getElem?_eq_getElem (by omega)] at g2
      obtain ⟨n0, e0, -, -⟩ := DataW.trod_int Tryd.underlying3 g0
      obtain ⟨n1, e1, -, -⟩ := DataW.trod_int Tryd.underlying3 g1
      obtain ⟨n2, e2, -⟩ := DataW.trod_bool Tryd.underlying4 g2
      have e0 : v0 = .int .i64 n0 := by simpa using e0
      have e1 : v1 = .int .i64 n1 := by simpa using e1
      have e2 : v2 = .bool n2 := by simpa using e2
      refine ⟨(n0, n1, n2), ?_, ?_, ?_⟩
      · rw [← add_add, h4 0 (by omega), e0]; rfl
      · rw [← add_add, h4 1 (by omega), e1]; rfl
      · rw [← add_add, h4 2 (by omega), e2]; rfl
    obtain ⟨f, hf2⟩ : ∃ f : Nat → Int × Int × Bool, ∀ i, i < len → W.cell? (x.add (i * 3 + 0)) = some (.int .i64 (f i).1) ∧ W.cell? (x.add (i * 3 + 1)) = some (.int .i64 (f i).2.1) ∧ W.cell? (x.add (i * 3 + 2)) = some (.bool (f i).2.2) := by
      refine ⟨fun i => if h : i < len then (each i h).choose else default, fun i hil => ?_⟩
      simp only [hil, dif_pos]
      exact (each i hil).choose_spec
    refine ⟨fun i => (f i).1, fun i => (f i).2.1, fun i => (f i).2.2, hl, by unfold maxLen at hm; omega, fun h0 => ?_⟩
    have c0 := (hf2 0 h0).1
    obtain ⟨b, off, spot⟩ := x
    have hsp : spot = none := by
      cases spot with
      | none => rfl
      | some t => simp [World.cell?, Addr.add] at c0; split at c0 <;> simp at c0
    subst hsp
    refine ⟨b, off, rfl, fun i hil => ?_⟩
    obtain ⟨q0, q1, q2⟩ := hf2 i hil
    rw [show (Addr.add ⟨b, off, none⟩ (i * 3 + 0) : Addr) = ⟨b, off + i * 3, none⟩ by simp [Addr.add]] at q0
    rw [show (Addr.add ⟨b, off, none⟩ (i * 3 + 1) : Addr) = ⟨b, off + i * 3 + 1, none⟩ by simp [Addr.add, Nat.add_assoc]] at q1
    rw [show (Addr.add ⟨b, off, none⟩ (i * 3 + 2) : Addr) = ⟨b, off + i * 3 + 2, none⟩ by simp [Addr.add, Nat.add_assoc]] at q2
    exact ⟨q0, q1, q2⟩
end
end Go.Proofs.YtegbaocpacbljaaDoor.arenaPlays
