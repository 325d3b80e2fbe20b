/- media.Param and the document's. -/
import Derived.Test.YtelofhplpeeplaaDoorMdParse
import Derived.Test.YtelofhplpeeplaaDoorMdRef
set_option linter.unusedSimpArgs false
set_option linter.unusedVariables false
namespace Go.Proofs.YtelofhplpeeplaaDoor.media
open Go.RowKit Go.Proofs.YtelofhplpeeplaaDoor.errs

/-- The first parameter of a name. -/
def foundIn (ps : List It) (nm : ByteArray) : Option It := ps.find? (named nm)
def paramV (ps : List It) (nm : ByteArray) : ByteArray := match foundIn ps nm with | none => ⟨#[]⟩ | some p => p.value
def paramB (ps : List It) (nm : ByteArray) : Bool := match foundIn ps nm with | none => false | some _ => true
theorem idx_find (nm : ByteArray) : ∀ (ps : List It) (i : Nat),
    (Lib.idxByFrom (fun _ y => named nm y) default ps i = -1 ∧ ps.find? (named nm) = none) ∨ ∃ k, k < ps.length ∧ Lib.idxByFrom (fun _ y => named nm y) default ps i = ((i + k : Nat) : Int) ∧ ps.find? (named nm) = some (itAt ps k)
  | [], i => .inl ⟨rfl, rfl⟩
  | p :: ps, i => by
    unfold Lib.idxByFrom
    by_cases h : named nm p = true
    · rw [if_pos h, List.find?_cons_of_pos h]
      exact .inr ⟨0, by simp, by simp, rfl⟩
    · rw [if_neg h, List.find?_cons_of_neg h]
      rcases idx_find nm ps (i + 1) with ⟨h1, h2⟩ | ⟨k, hk, h1, h2⟩
      · exact .inl ⟨h1, h2⟩
      · refine .inr ⟨k + 1, by simp; omega, by rw [h1]; congr 1; omega, ?_⟩
        rw [h2]; rfl

set_option maxRecDepth 100000 in
set_option maxHeartbeats 1000000 in
theorem param_any (t u : ByteArray) (ad : Option Addr) (n c : Nat) (ps : List It) (nm : ByteArray) (w : World) (h : ItemsIn w (.slice ad n c) ps) (hn : n ≤ 1000000) (hv : ∀ p ∈ ps, p.value.size ≤ 1000000) :
    Calls Tryd.prog 50 #[.agg #[.string t, .string u, .slice ad n c], .string nm] w fun e w' => e = .returned (.tuple #[.string (paramV ps nm), .bool (paramB ps nm)]) ∧ Below w.heap.size w w' := by
  have hl := h.len.1
  obtain ⟨W, hW⟩ : ∃ W, (w.alloc (.cells #[.string t, .string u, .slice ad n c] 96)).alloc (.cells #[.string nm] 9) = W := ⟨_, rfl⟩
  have hB : Below w.heap.size w W := by rw [← hW]; exact ((Below.refl _ _).alloc (Nat.le_refl _) _).alloc (by simp) _
  have hWs : W.heap.size = w.heap.size + 1 + 1 := by rw [← hW]; simp
  have cn : W.cell? ⟨w.heap.size + 1, 0, none⟩ = some (.string nm) := by
    rw [← hW, World.cell?_alloc_at _ _ _ _ (by simp)]; rfl
  have cs : W.cell? ⟨w.heap.size, 2, none⟩ = some (.slice ad n c) := by
    rw [← hW, World.cell?_alloc_lt _ _ _ (by simp), World.cell?_alloc_at _ _ _ _ rfl]; rfl
  have IX := index_any (h.below hB) hn nm (w.heap.size + 1) (by omega) cn
  have HI := Lib.hid (h.below hB)
  have HB := Lib.hid hB
  have HW := Lib.hid hW
  unfold paramV paramB foundIn
  rcases idx_find nm ps 0 with ⟨h1, h2⟩ | ⟨k, hk, h1, h2⟩
  · rw [h2]
    simp only
    unfold Lib.idxBy at IX
    rw [h1] at IX
    clear h h1 h2 hl hW hB hWs
    go_enter Tryd.func50, Tryd.ntmps50
    go_wp2_with fail
    rw [HW.out]
    refine IX.mono ?_; rintro e w2 ⟨rfl, hb⟩
    have KB : Hid (Below w.heap.size w w2) := HB.out.trans (hb.mono HB.out.size)
    clear hb
    go_wp2_with fail
    go_ret2
    exact ⟨rfl, KB.out⟩
  · rw [h2]
    simp only
    unfold Lib.idxBy at IX
    rw [h1, Nat.zero_add] at IX
    have y0 : ¬ (k : Int) < 0 := by omega
    have y1 : (k : Int) < (n : Int) := by omega
    have y2 : (0 : Int) ≤ (k : Int) := by omega
    have hvv : (itAt ps k).value.size ≤ 1000000 := hv _ (List.mem_of_find?_eq_some h2)
    have CC := clone_any (itAt ps k).value hvv
    obtain ⟨b, o, rfl, -, c1, -⟩ := (h.below hB).at (k := k) (by omega)
    have cs2 : Hid (∀ w2, Below W.heap.size W w2 → w2.cell? ⟨w.heap.size, 2, none⟩ = some (.slice (some ⟨b, o, none⟩) n c) ∧ w2.cell? ⟨b, o + k * 3 + 1, none⟩ = some (.string (itAt ps k).value)) := fun w2 hb => ⟨(hb.cell (p := ⟨w.heap.size, 2, none⟩) (lt_of_cell cs)).trans cs, (hb.cell (p := ⟨b, o + k * 3 + 1, none⟩) (lt_of_cell c1)).trans c1⟩
    clear h h1 h2 hl hW hB hWs hvv c1
    generalize (itAt ps k).value = V at *
    go_enter Tryd.func50, Tryd.ntmps50
    go_wp2_with fail
    rw [HW.out]
    refine IX.mono ?_; rintro e w2 ⟨rfl, hb⟩
    have KB : Hid (Below w.heap.size w w2) := HB.out.trans (hb.mono HB.out.size)
    obtain ⟨d1, d2⟩ := cs2.out w2 hb
    clear hb
    go_wp2_with fail
    refine (CC _).mono ?_; rintro e w3 ⟨rfl, hb⟩
    have KC : Hid (Below w.heap.size w w3) := KB.out.trans (hb.mono KB.out.size)
    clear hb
    go_wp2_with fail
    go_ret2
    exact ⟨rfl, KC.out⟩

set_option maxRecDepth 100000 in
set_option maxHeartbeats 1000000 in
theorem rparam2_any (t u : ByteArray) (ad : Option Addr) (n c : Nat) (ps : List It) (nm : ByteArray) (w : World) (h : ItemsIn w (.slice ad n c) ps) (hn : n ≤ 1000000) :
    Calls Tryd.prog 45 #[.agg #[.string t, .string u, .slice ad n c], .string nm] w fun e w' => e = .returned (.tuple #[.string (paramV ps nm), .bool (paramB ps nm)]) ∧ Below w.heap.size w w' := by
  have hl := h.len.1
  obtain ⟨rv, hrv⟩ : ∃ rv, Hid (paramV ps nm = rv) := ⟨_, rfl⟩
  obtain ⟨rb, hrb⟩ : ∃ rb, Hid (paramB ps nm = rb) := ⟨_, rfl⟩
  rw [hrv.out, hrb.out]
  obtain ⟨W, hW⟩ : ∃ W, w.alloc (.cells #[.string t, .string u, .slice ad n c] 96) = W := ⟨_, rfl⟩
  have HB : Hid (Below w.heap.size w W) := by show Below _ _ _; rw [← hW]; exact (Below.refl _ _).alloc (Nat.le_refl _) _
  have cs : W.cell? ⟨w.heap.size, 2, none⟩ = some (.slice ad n c) := by
    rw [← hW, World.cell?_alloc_at _ _ _ _ rfl]; rfl
  have HI := Lib.hid (h.below HB.out)
  have HW := Lib.hid hW
  have HL := Lib.hid hl
  clear h hW hl
  go_enter Tryd.func45, Tryd.ntmps45
  go_wp2_with fail
  rw [HW.out]
  go_loopg [6] n (fun g b wr => ∃ i : Nat, b = .int .i64 i ∧ g + i = n ∧ Hid (∀ j, j < i → (itAt ps j).name ≠ nm) ∧ wr = W)
  case atStart => exact ⟨0, rfl, rfl, fun j hj => absurd hj (Nat.not_lt_zero _), rfl⟩
  case round =>
    obtain ⟨i, rfl, hg, hd, rfl⟩ := hrel
    have y1 : (0 : Int) ≤ (i : Int) := by omega
    have hat : ∀ j, j < ps.length → itAt ps j = ps[j]! := fun j hj => (at_get ps j).symm
    by_cases hlt : i < n
    · have y0 : (i : Int) < (n : Int) := by omega
      obtain ⟨b, o, rfl, c0, c1, c2⟩ := HI.out.at hlt
      have E := str_same (itAt ps i).name nm
      by_cases he : (itAt ps i).name = nm
      · rw [decide_eq_true he] at E
        have V : Hid (rv = (itAt ps i).value ∧ rb = true) := by
          have hil : i < ps.length := by rw [HL.out]; exact hlt
          have hf : foundIn ps nm = some (itAt ps i) := by
            unfold foundIn
            rw [hat i (by rw [HL.out]; exact hlt), List.getElem!_eq_getElem?_getD, List.getElem?_eq_getElem (by rw [HL.out]; exact hlt)]
            refine List.find?_eq_some_iff_getElem.2 ⟨?_, i, by rw [HL.out]; exact hlt, rfl, fun j hj => ?_⟩
            · show named nm ps[i] = true
              have : ps[i] = itAt ps i := by rw [hat i (by rw [HL.out]; exact hlt), List.getElem!_eq_getElem?_getD, List.getElem?_eq_getElem (by rw [HL.out]; exact hlt)]; rfl
              rw [this]; exact E
            · have hjl : j < ps.length := by rw [HL.out]; omega
              have : ps[j] = itAt ps j := by rw [hat j hjl, List.getElem!_eq_getElem?_getD, List.getElem?_eq_getElem hjl]; rfl
              rw [this]
              unfold named
              rw [str_same, decide_eq_false (hd.out j hj)]; rfl
          refine ⟨?_, ?_⟩
          · rw [← hrv.out]; unfold paramV; rw [hf]
          · rw [← hrb.out]; unfold paramB; rw [hf]
        clear hd he hat
        generalize (itAt ps i).name = N1 at *
        generalize (itAt ps i).value = V1 at *
        go_wp2_with fail
        go_ret2
        exact ⟨by rw [V.out.1, V.out.2]; rfl, HB.out⟩
      · rw [decide_eq_false he] at E
        have NX : Hid (∀ j, j < i + 1 → (itAt ps j).name ≠ nm) := fun j hj => by
          by_cases e : j = i
          · rw [e]; exact he
          · exact hd.out j (by omega)
        clear hd he hat
        generalize (itAt ps i).name = N1 at *
        generalize (itAt ps i).value = V1 at *
        go_wp2_with fail
        go_roundg (gk - 1)
        case measure => omega
        case rel => exact ⟨i + 1, by go_num, by omega, NX.out, rfl⟩
    · have y0 : ¬ (i : Int) < (n : Int) := by omega
      have V : Hid (rv = ⟨#[]⟩ ∧ rb = false) := by
        have hf : foundIn ps nm = none := by
          unfold foundIn
          rw [List.find?_eq_none]
          intro p hp hq
          obtain ⟨j, hj, rfl⟩ := List.getElem_of_mem hp
          have : ps[j] = itAt ps j := by rw [hat j hj, List.getElem!_eq_getElem?_getD, List.getElem?_eq_getElem hj]; rfl
          rw [this] at hq
          unfold named at hq
          rw [str_same] at hq
          exact hd.out j (by rw [HL.out] at hj; omega) (of_decide_eq_true hq)
        refine ⟨?_, ?_⟩
        · rw [← hrv.out]; unfold paramV; rw [hf]
        · rw [← hrb.out]; unfold paramB; rw [hf]
      clear hd hat
      go_wp2_with fail
      go_ret2
      exact ⟨by rw [V.out.1, V.out.2]; rfl, HB.out⟩
end Go.Proofs.YtelofhplpeeplaaDoor.media
