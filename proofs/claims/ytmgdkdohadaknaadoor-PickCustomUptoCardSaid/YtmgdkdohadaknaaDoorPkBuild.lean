/- A builder of texts: WriteString, String. -/
import Derived.Test.YtmgdkdohadaknaaDoorBuild
import Derived.Test.YtmgdkdohadaknaaDoorShelf
import Derived.Lib.AppendStr
set_option linter.unusedSimpArgs false
set_option linter.unusedVariables false
namespace Go.Proofs.YtmgdkdohadaknaaDoor.build
open Go.RowKit

def T (l : List UInt8) : ByteArray := ⟨l.toArray⟩
theorem T_of (s : ByteArray) : T s.data.toList = s := rfl
theorem byteCells_append (l s : List UInt8) : Lib.byteCells (l ++ s) = Lib.byteCells l ++ Lib.byteCells s := by simp [Lib.byteCells]

set_option maxHeartbeats 2000000 in
set_option maxRecDepth 100000 in
theorem string_any (B b : Nat) (l s : List UInt8) (w : World) (h : Bld B b l w) (hlen : l.length + s.length ≤ 140737488355328) (hBw : B ≤ w.heap.size) :
    Calls Tryd.prog 25 #[.pointer (some ⟨b, 0, none⟩), .string (T s)] w fun e w' => e = .returned (.tuple #[.int .i64 s.length, .nilIface]) ∧ Bld B b (l ++ s) w' ∧ Below B w w' := by
  obtain ⟨i0, hi, hz0, hz1, hz2⟩ := info_parts infoByte
  have hl := Lib.byteCells_length l
  have C := check_any B b l w h
  have hcc := byteCells_append l s
  have hsz : (T s).size = s.length := rfl
  have hst : Lib.strCells (T s) = Lib.byteCells s := rfl
  obtain ⟨bs, hb⟩ : ∃ bs, Lib.byteCells l = bs := ⟨_, rfl⟩
  rw [hb] at hl C hcc
  have HCC := Lib.hid hcc
  have HST := Lib.hid hst
  have HSZ := Lib.hid hsz
  clear h hcc hst
  obtain ⟨n, hn⟩ : ∃ n, Hid (s.length = n) := ⟨_, rfl⟩
  rw [hn.out] at hlen hsz ⊢
  obtain ⟨z, hz⟩ : ∃ z, Hid (T s = z) := ⟨_, rfl⟩
  rw [hz.out] at hsz ⊢
  go_enter Tryd.func25, Tryd.ntmps25
  go_wp2_with fail
  refine C.mono ?_; rintro e w1 ⟨rfl, h1, hb1, -⟩
  obtain ⟨hB, v, hbk, hown, hne⟩ := h1
  have c1 : w1.cell? ⟨b, 1, none⟩ = some v := by rw [Lib.cell_of_heap hbk]; rfl
  have K : Aside (Below B w w1) := hb1
  clear hb1
  go_wp2_with (at_builtin; refine Lib.wpList_append_own_stringF _ rfl _ _ 47 9 rfl B 5 i0 Tryd.underlying47 Tryd.underlying9 hi hz0 hz1 hz2 _ _ _ rfl hown z rfl (by unfold maxLen; omega) (by omega) (by have := K.out.size; omega) ?_)
  intro v' w2 hown' hgrow _
  have hlt : b < w1.heap.size := (Array.getElem?_eq_some_iff.1 hbk).1
  have hb2 : w2.heap[b]? = some (.cells #[.pointer (some ⟨b, 0, none⟩), v] 49 (0, 0)) := by
    rw [hgrow.block b hlt (fun e => hne e.symm)]
    exact hbk
  have d1 : w2.cell? ⟨b, 1, none⟩ = some v := by rw [Lib.cell_of_heap hb2]; rfl
  have f1 : w2.frozen? ⟨b, 1, none⟩ = false := Lib.frozen_of_heap hb2 1
  obtain ⟨ao, n', cap, rfl⟩ : ∃ ao n' cap, v' = .slice ao n' cap := by
    rcases hown'.2 with ⟨hv, _⟩ | ⟨g, cap, cur, fz, hv, _⟩
    · exact ⟨_, _, _, hv⟩
    · exact ⟨_, _, _, hv⟩
  have E : Aside (Bld B b (l ++ s) (w2.setCell ⟨b, 1, none⟩ (.slice ao n' cap)) ∧ Below B w (w2.setCell ⟨b, 1, none⟩ (.slice ao n' cap))) := by
    refine ⟨.inr ?_, ?_⟩
    · rw [byteCells_append, hb]
      refine Lib.BuilderAtF.put (T := 49) (e := 5) hB hb2 ?_ (by decide)
      rw [← HST.out, hz.out]
      rw [List.length_append, Lib.strCells_length, hl, hsz]
      exact hown'
    · exact (K.out.grown hgrow (by have := K.out.size; omega) (fun k hk => (hown.lt k hk).1)).setCell (p := ⟨b, 1, none⟩) hB _
  clear hown' hgrow hown hbk hb2 hlt hne
  go_wp2_with fail
  go_ret2
  exact ⟨rfl, E.out.1, E.out.2⟩

/-- A builder keeps what it holds where blocks are laid, and where others than its own are turned. -/
theorem bld_below {B b : Nat} {l : List UInt8} {w w' : World} (h : Bld B b l w) (hb : Below w.heap.size w w') : Bld B b l w' := by
  have key : ∀ p, Lib.BuilderAtF 49 5 B b p (Lib.byteCells l) w → Lib.BuilderAtF 49 5 B b p (Lib.byteCells l) w' := by
    rintro p ⟨hB, v, hbk, hown, hne⟩
    have hlt : b < w.heap.size := (Array.getElem?_eq_some_iff.1 hbk).1
    refine ⟨hB, v, (hb.block b hlt).trans hbk, hown.kept (row := none) ⟨hb.os, hb.tape, hb.output, hb.size, fun k hk _ => hb.block k hk⟩ ?_, hne⟩
    cases v.ownBlock <;> simp
  exact h.elim (fun x => .inl (key _ x)) (fun x => .inr (key _ x))
theorem puts_any (B b : Nat) (l : List UInt8) (z : ByteArray) (w : World) (h : Bld B b l w) (hlen : l.length + z.size ≤ 140737488355328) (hBw : B ≤ w.heap.size) :
    Calls Tryd.prog 25 #[.pointer (some ⟨b, 0, none⟩), .string z] w fun e w' => ∃ k : Nat, e = .returned (.tuple #[.int .i64 k, .nilIface]) ∧ Bld B b (l ++ z.data.toList) w' ∧ Below B w w' := by
  have e : z = T z.data.toList := (T_of z).symm
  have hz : z.data.toList.length = z.size := Array.length_toList
  have := string_any B b l z.data.toList w h (by rw [hz]; exact hlen) hBw
  rw [← e] at this
  exact this.mono fun e w' ⟨h1, h2, h3⟩ => ⟨_, h1, h2, h3⟩
theorem fresh_builder {B : Nat} {w0 w : World} (h : Below B w0 w) (hB : B ≤ w.heap.size) : Bld B w.heap.size [] (w.alloc (.cells #[.pointer none, .slice none 0 0] 49)) :=
  .inl ⟨hB, _, by show (w.heap.push _)[w.heap.size]? = _; simp, World.ownsRowF_nil _ _ _ _, by simp [Value.ownBlock]⟩

end Go.Proofs.YtmgdkdohadaknaaDoor.build
