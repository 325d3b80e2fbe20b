/- ident.Has and the document's Has: is a fingerprint among those that a slice holds? -/
import Derived.Test.YtmaigbfmbhknhaaDoorPrRow
import Derived.Test.YtmaigbfmbhknhaaDoorShelfP
import Derived.Test.YtmaigbfmbhknhaaDoorCalm
import Derived.Lib.SliceRun
import Derived.Deep.MidRow
import Derived.Deep.LoopGhost
namespace Go.Proofs.YtmaigbfmbhknhaaDoor.prints
open Go.RowKit Go.Proofs.YtmaigbfmbhknhaaDoor.errs

def among (zs : List Pr) (x : Pr) : Bool := zs.any fun y => decide (x = y)

theorem keeps_new (w : World) (o : Obj) : Keeps w (w.alloc o) := (Below.refl _ _).alloc (Nat.le_refl _) _
theorem index_none (a : Option Addr) (cap : Nat) (x : Pr) (w : World) :
    Calls Tryd.prog 34 #[.slice a 0 cap, .agg (enc x).toArray] w fun e w' => e = .returned (.int .i64 (-1)) ∧ Keeps w w' := by
  go_enter Tryd.func34, Tryd.ntmps34
  go_wp2_with fail
  go_loopg [8] 0 (fun _ t wr => t = .int .i64 0 ∧ Keeps w wr)
  case atStart => exact ⟨rfl, (Below.refl _ w).alloc (Nat.le_refl _) _⟩
  case round =>
    obtain ⟨rfl, hk⟩ := hrel
    go_wp2_with fail
    go_ret
    exact ⟨rfl, hk⟩
theorem size24 : (Tryd.prog.info? 24).map (·.size) = some 32 := by kernel_rfl
theorem size_enc (x : Pr) : (Tryd.prog.info? 24).map (·.size) = some (enc x).length := by rw [size24, enc_length]
/-- A load of a fingerprint, met whole. -/
theorem load24 {ops : Array Oper} {rest : List Oper} {op : Oper} {a : Act} {w : World} {Q : Exit → Act → World → Prop} (hgd : op.guard = none) (x : Operand) (ho : op.op = .load 24 x)
    (b o : Nat) (hx : a.eval x = .pointer (some ⟨b, o, none⟩)) (p : Pr) (hc : At32 w b o p) (h : wpList Tryd.prog ops Q rest (a.put op.dst (.agg (enc p).toArray)) w) : wpList Tryd.prog ops Q (op :: rest) a w :=
  wpList_load_mid hgd 24 x ho b o hx (enc p) _ hc Tryd.underlying24 rfl (size_enc p) h
theorem contains_any (zs : List Pr) (v : Value) (x : Pr) (w : World) (h : Row w v zs) :
    Calls Tryd.prog 21 #[v, .agg (enc x).toArray] w fun e w' => e = .returned (.bool (among zs x)) ∧ Keeps w w' := by
  obtain ⟨a, cap, rfl, h1, h2, h3, h4⟩ := h
  by_cases h0 : 0 < zs.length
  · obtain ⟨b, off, rfl, hB⟩ := h4 h0
    have := AnyQ.slices_Contains Tryd.containsP 32 Tryd.isAgg24 Tryd.sizeOf24 enc enc_length (fun x y => decide (x = y)) eqlAt b off zs.length cap zs x w (Nat.le_refl _) (by omega) (fun j hj i v hi => hB j hj i v hi)
    rw [List.take_of_length_le (Nat.le_refl _)] at this
    exact this
  · obtain rfl : zs = [] := List.length_eq_zero_iff.1 (by omega)
    have C := fun W => index_none a cap x W
    have L : Aside (At32 (w.alloc (.cells (enc x).toArray 24)) w.heap.size 0 x) := at32_new w x 24
    go_enter Tryd.func21, Tryd.ntmps21
    go_wp2_with (first | (go_at_call 34; refine (C _).mono ?_; rintro e w' ⟨rfl, hk⟩) | (refine load24 rfl _ rfl _ _ rfl x L.out ?_))
    go_ret
    exact ⟨rfl, Keeps.step ((Below.refl _ w).alloc (Nat.le_refl _) _) hk⟩
theorem has_any (zs : List Pr) (v : Value) (x : Pr) (w : World) (h : Row w v zs) :
    Calls Tryd.prog 8 #[v, .agg (enc x).toArray] w fun e w' => e = .returned (.bool (among zs x)) ∧ Keeps w w' := by
  have L : Aside (At32 (w.alloc (.cells (enc x).toArray 24)) w.heap.size 0 x) := at32_new w x 24
  have C := contains_any zs v x _ (h.below (keeps_new w (.cells (enc x).toArray 24)))
  clear h
  go_enter Tryd.func8, Tryd.ntmps8
  go_wp2_with (first | (go_at_call 21; refine C.mono ?_; rintro e w' ⟨rfl, hk⟩) | (refine load24 rfl _ rfl _ _ rfl x L.out ?_))
  go_ret
  exact ⟨rfl, (keeps_new w _).step hk⟩
end Go.Proofs.YtmaigbfmbhknhaaDoor.prints
