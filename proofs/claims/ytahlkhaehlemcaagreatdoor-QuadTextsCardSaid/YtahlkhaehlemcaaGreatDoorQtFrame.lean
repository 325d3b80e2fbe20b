/- A word for the frame of the law on addresses' texts: what an address that came in is. -/
import Derived.Test.YtahlkhaehlemcaaGreatDoorProg
import Derived.Deep.Slices
import Derived.OpenShut
import Derived.ChangeShapes
set_option linter.unusedSimpArgs false
set_option linter.unusedVariables false
namespace Go.Proofs.YtahlkhaehlemcaaGreatDoor.v4
open Go.RowKit Go.ChangeShapes Go.WideShapes Go.Deep

theorem open_v4 {H : Type} {en : TypeId × Value → H} {W : World} {base : Nat} {spare : Nat → Bool} {held : Bool} {v : Value} {dd : DataW H} {p : List MemPlace}
    (h : DataW.Trod en Tryz.prog W base spare held 24 v dd p) : ∃ a b c d : Nat, (a < 256 ∧ b < 256 ∧ c < 256 ∧ d < 256) ∧ v = .agg #[.int .u8 a, .int .u8 b, .int .u8 c, .int .u8 d] := by
  obtain ⟨fuel, hf⟩ := h
  obtain ⟨l, hle⟩ : ∃ l, v.cells.toList = l := ⟨_, rfl⟩
  rw [hle] at hf
  obtain ⟨xs, m, -, -, hl, hx, hi⟩ := DataW.trod_array Tryz.underlying24 hf
  have hc : Tryz.prog.cellsOf 5 = 1 := by kernel_rfl
  have hc2 : Tryz.prog.cellsOf 24 = 4 := by kernel_rfl
  rw [hc2] at hl
  have each : ∀ j, j < 4 → ∃ n : Nat, l[j]? = some (.int .u8 n) ∧ n < 256 := fun j hj => by
    have hj1 := hi j hj
    rw [hc, Nat.mul_one, List.getElem?_eq_getElem (by omega)] at hj1
    obtain ⟨n, hn, -, hw⟩ := DataW.trod_int Tryz.underlying5 hj1
    have h2 : 0 ≤ n ∧ n ≤ 255 := by
      have h : IntKind.u8.min ≤ n ∧ n ≤ IntKind.u8.max := by simpa [Lit.wf] using hw
      exact h
    refine ⟨n.toNat, ?_, by omega⟩
    have : ((l.drop j).take 1)[0]? = some (.int .u8 n) := by rw [hn]; rfl
    rw [List.getElem?_take_of_lt (by omega), List.getElem?_drop] at this
    rw [show ((n.toNat : Nat) : Int) = n by omega]
    simpa using this
  obtain ⟨a, ha, a1⟩ := each 0 (by decide)
  obtain ⟨b, hb, b1⟩ := each 1 (by decide)
  obtain ⟨c, hc', c1⟩ := each 2 (by decide)
  obtain ⟨d, hd, d1⟩ := each 3 (by decide)
  refine ⟨a, b, c, d, ⟨a1, b1, c1, d1⟩, ?_⟩
  have hll : l = [.int .u8 a, .int .u8 b, .int .u8 c, .int .u8 d] := by
    match l, hl, ha, hb, hc', hd with
    | [x0, x1, x2, x3], _, ha, hb, hc', hd =>
      obtain rfl : x0 = _ := Option.some.inj ha
      obtain rfl : x1 = _ := Option.some.inj hb
      obtain rfl : x2 = _ := Option.some.inj hc'
      obtain rfl : x3 = _ := Option.some.inj hd
      rfl
  rw [hll] at hle
  have hs : v.cells.size = 4 := by
    have := congrArg List.length hle
    simpa using this
  cases v <;> first
    | (exfalso; simp [Value.cells] at hs; done)
    | (rename_i cs; simp only [Value.cells] at hle; rw [← hle])
end Go.Proofs.YtahlkhaehlemcaaGreatDoor.v4
