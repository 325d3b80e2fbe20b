/- strconv.FormatUint by base 10, and fold.Digits: a byte's decimal digits. -/
import Derived.Test.YtahlkhaehlemcaaGreatDoorQtMath
import Derived.Test.YtahlkhaehlemcaaGreatDoorShelf
import Derived.Lib.ItoaMem
import Derived.Lib.AppendIntMem
import Derived.Lib.ItoaWalk
import Derived.Lib.LaidTab
import Derived.Lib.Hide
set_option linter.unusedSimpArgs false
set_option linter.unusedVariables false
namespace Go.Proofs.YtahlkhaehlemcaaGreatDoor.qtext
open Go.RowKit Go.Sort Go.Proofs.YtahlkhaehlemcaaGreatDoor.errs

/-- The table of the powers of ten. -/
def Pow (w : World) : Prop := Lib.TabIs Tryz.prog w "internal/strconv.uint64pow10" .u64 Lib.pow10Tab
theorem powGlobal : Tryz.prog.globalNamed "internal/strconv.uint64pow10" = some 4 := by kernel_rfl
theorem Pow.below {w w' : World} {B : Nat} (h : Pow w) (hb : Below B w w') (hB : w.heap.size ≤ B) : Pow w' := by
  unfold Pow Lib.TabIs World.var? at *
  rw [powGlobal, Option.bind_some] at h ⊢
  have hlt : 4 < w.heap.size := by
    rcases Nat.lt_or_ge 4 w.heap.size with h1 | h1
    · exact h1
    · rw [Array.getElem?_eq_none h1] at h
      cases h
  rw [hb.block _ (Nat.lt_of_lt_of_le hlt hB)]
  exact h

theorem lenTab : Tryz.prog.arrayLen 141 = 24 := by kernel_rfl

set_option maxRecDepth 100000 in
set_option maxHeartbeats 4000000 in
theorem fuint_any (n : Nat) (hn : n < 256) (w : World) (hp : Pow w) :
    Calls Tryz.prog 70 #[.int .u64 n, .int .i64 10] w fun e w' => e = .returned (.string (part n)) ∧ Below w.heap.size w w' := by
  have hpart : part n = ⟨(Lib.decDigits n).toArray⟩ := by rw [dec_d3 hn]; rfl
  rw [hpart]
  by_cases h100 : n < 100
  · have S := fun w => Tryz.internal_strconv_small n h100 w
    have y0 : (n : Int) < 100 := by omega
    obtain ⟨r, hr⟩ : ∃ r, (⟨(Lib.decDigits n).toArray⟩ : ByteArray) = r := ⟨_, rfl⟩
    rw [hr] at S ⊢
    clear hpart hr
    go_enter Tryz.func70, Tryz.ntmps70
    go_wp2_with (go_at_call 84; refine (S _).mono ?_; rintro e w' ⟨rfl, rfl⟩)
    go_ret
    exact ⟨rfl, Below.refl _ _⟩
  · have hnd : Lib.nDigits n = 3 := Lib.nDigits_unique 2 n (by omega) (by omega)
    have hdl : (Lib.decDigits n).length = 3 := by rw [Lib.decDigits_length, hnd]
    have hH0 := Lib.holds_zero0 w 141 3 (by decide)
    have hfmt := Tryz.internal_strconv_formatBase10 w.heap.size 0 24 n (Array.replicate 3 0) (w.alloc (.cells Lib.zeros24 141)) hH0 (by rw [Array.size_replicate]; omega) (by omega) (by rw [Array.size_replicate]; omega)
    rw [Array.size_replicate] at hfmt
    have ND := Tryz.internal_strconv_numDigits n (by omega) (by omega) (w.alloc (.cells Lib.zeros24 141)) (Lib.tabIs_alloc hp _)
    rw [hnd] at ND
    have y0 : (100 : Int) ≤ (n : Int) := by omega
    have hsl : ∀ W, (Instr.sliceAt 141 (.pointer (some ⟨w.heap.size, 0, none⟩)) none (some (.int .i64 3)) none).run Tryz.prog W = .ok (.slice (some ⟨w.heap.size, 0, none⟩) 3 24) W := fun W => by
      rw [run_sliceAt_array_h W 141 ⟨w.heap.size, 0, none⟩ (by kernel_rfl) .i64 3 (by decide) (by rw [lenTab]; decide)]
      rw [lenTab]
      rfl
    have HH0 := Lib.hid hH0
    obtain ⟨r, hr⟩ : ∃ r, Hid ((⟨(Lib.decDigits n).toArray⟩ : ByteArray) = r) := ⟨_, rfl⟩
    rw [hr.out]
    clear hH0 hpart hp
    go_enter Tryz.func70, Tryz.ntmps70
    go_wp2_with (go_at_call 85; refine ND.mono ?_; rintro e w' ⟨rfl, rfl⟩)
    go_at_call 86
    refine hfmt.mono ?_; rintro e w' ⟨rfl, k, v', dk, rfl, hF⟩
    have hcv : (convert 75 9 (.slice (some ⟨w.heap.size, 0, none⟩) 3 24)).run Tryz.prog ((putRow (fun (b : UInt8) => Value.int .u8 (b.toNat : Int)) (w.alloc (.cells Lib.zeros24 141)) w.heap.size 0 dk).drewN k) = .ok (.string r) ((putRow (fun (b : UInt8) => Value.int .u8 (b.toNat : Int)) (w.alloc (.cells Lib.zeros24 141)) w.heap.size 0 dk).drewN k) := by
      have h := run_convert_bytes_back (P := Tryz.prog) ((putRow (fun (b : UInt8) => Value.int .u8 (b.toNat : Int)) (w.alloc (.cells Lib.zeros24 141)) w.heap.size 0 dk).drewN k) 75 9 5 ⟨w.heap.size, 0, none⟩ 24 (Lib.decDigits n) Tryz.underlying75 Tryz.underlying5 Tryz.underlying9 (fun j hj => by
        rw [Lib.row_is_numeral (v' := v') (by rw [hnd]; exact hF) j hj, Lib.add_plain, World.cell?_drewN]
        exact cell?_putRow (fun (b : UInt8) => Value.int .u8 (b.toNat : Int)) _ w.heap.size 0 _ dk HH0.out (by rw [hF.size, Array.size_replicate]) j (by rw [hF.size]; omega))
      rw [hdl, hr.out] at h
      exact h
    have E : Aside (Below w.heap.size w ((putRow (fun (b : UInt8) => Value.int .u8 (b.toNat : Int)) (w.alloc (.cells Lib.zeros24 141)) w.heap.size 0 dk).drewN k)) := by
      obtain ⟨os, eo⟩ := Lib.fin_at w (.cells Lib.zeros24 141) dk k 0
      show Below _ _ _
      rw [eo]
      exact Lib.below_grow w.heap.size w (Nat.le_refl _) k os
    generalize (putRow (fun (b : UInt8) => Value.int .u8 (b.toNat : Int)) (w.alloc (.cells Lib.zeros24 141)) w.heap.size 0 dk).drewN k = W2 at hcv E ⊢
    clear hF HH0 hfmt ND hnd hdl hr
    go_wp2
    go_ret
    exact ⟨rfl, E.out⟩

set_option maxRecDepth 100000 in
set_option maxHeartbeats 4000000 in
theorem digits_any (n : Nat) (hn : n < 256) (w : World) (hp : Pow w) :
    Calls Tryz.prog 33 #[.int .u64 n] w fun e w' => e = .returned (.string (part n)) ∧ Below w.heap.size w w' := by
  have C := fuint_any n hn w hp
  have F : Calls Tryz.prog 51 #[.int .u64 n, .int .i64 10] w fun e w' => e = .returned (.string (part n)) ∧ Below w.heap.size w w' := by
    clear hp
    go_enter Tryz.func51, Tryz.ntmps51
    go_wp2_with fail
    refine C.mono ?_; rintro e w1 ⟨rfl, hb⟩
    go_wp2_with fail
    go_ret
    exact ⟨rfl, hb⟩
  clear C hp
  go_enter Tryz.func33, Tryz.ntmps33
  go_wp2_with fail
  refine F.mono ?_; rintro e w1 ⟨rfl, hb⟩
  go_wp2_with fail
  go_ret
  exact ⟨rfl, hb⟩
end Go.Proofs.YtahlkhaehlemcaaGreatDoor.qtext
