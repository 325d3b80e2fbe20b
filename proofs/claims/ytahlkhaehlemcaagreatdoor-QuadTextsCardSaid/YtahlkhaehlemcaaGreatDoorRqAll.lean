/- Whether all bytes of a text are among others: the program's, and the document's own. -/
import Derived.Test.YtahlkhaehlemcaaGreatDoorRqFields
set_option linter.unusedSimpArgs false
set_option linter.unusedVariables false
namespace Go.Proofs.YtahlkhaehlemcaaGreatDoor.rq
open Go.RowKit Go.Proofs.YtahlkhaehlemcaaGreatDoor.errs Go.Proofs.YtahlkhaehlemcaaGreatDoor.qmath Go.Proofs.YtahlkhaehlemcaaGreatDoor.qread Go.Proofs.YtahlkhaehlemcaaGreatDoor.qfields Go.Proofs.YtahlkhaehlemcaaGreatDoor.qparse

def allIn (s among : ByteArray) : Bool := s.data.toList.all fun c => among.data.toList.contains c
theorem allIn_at {s among : ByteArray} {i : Nat} (h : i < s.size) : ((s.data.toList.drop i).all fun c => among.data.toList.contains c) = (among.data.toList.contains (s.get! i) && ((s.data.toList.drop (i + 1)).all fun c => among.data.toList.contains c)) := by
  rw [drop_at h, List.all_cons]

theorem rall_any (s among : ByteArray) (hs : s.size ≤ 1000000) (ha : among.size ≤ 1000000) (w : World) :
    Calls Tryz.prog 32 #[.string s, .string among] w fun e w' => e = .returned (.bool (allIn s among)) ∧ w = w' := by
  obtain ⟨res, hres⟩ : ∃ res, Hid (allIn s among = res) := ⟨_, rfl⟩
  rw [hres.out]
  have H := fun c w => rhas_any among c ha w
  go_enter Tryz.func32, Tryz.ntmps32
  go_wp2_with fail
  go_loopg [5] s.size (fun g v wr => ∃ i : Nat, v = .int .i64 i ∧ g + i = s.size ∧ Hid (((s.data.toList.drop i).all fun c => among.data.toList.contains c) = res) ∧ w = wr)
  case atStart => exact ⟨0, rfl, by omega, hres, rfl⟩
  case round =>
    clear hres
    obtain ⟨i, rfl, hg, hd, rfl⟩ := hrel
    by_cases hlt : i < s.size
    · obtain ⟨g, rfl⟩ : ∃ g, gk = g + 1 := ⟨gk - 1, by omega⟩
      have y0 : (i : Int) < (s.size : Int) := by omega
      have y1 : (0 : Int) ≤ (i : Int) := by omega
      have hd := hd.out
      rw [allIn_at hlt] at hd
      have C := H (s.get! i) w
      rw [qread.get_at s i hlt] at C hd
      obtain ⟨q, hq⟩ : ∃ q, q = among.data.toList.contains (s[i]'hlt) := ⟨_, rfl⟩
      rw [← hq] at C hd
      clear hq H
      cases q with
      | false =>
        have V : Aside (res = false) := hd.symm
        clear hd
        go_wp2_with fail
        refine C.mono ?_; rintro e w1 ⟨rfl, rfl⟩
        go_wp2_with fail
        go_ret
        rw [V.out]
        exact ⟨rfl, rfl⟩
      | true =>
        have V : Hid (((s.data.toList.drop (i + 1)).all fun c => among.data.toList.contains c) = res) := by rwa [Bool.true_and] at hd
        clear hd
        go_wp2_with fail
        refine C.mono ?_; rintro e w1 ⟨rfl, rfl⟩
        go_wp2_with fail
        go_roundg g
        case measure => omega
        case rel => exact ⟨i + 1, rfl, by omega, V, rfl⟩
    · have y0 : ¬ (i : Int) < (s.size : Int) := by omega
      have V : Aside (res = true) := by
        have hd := hd.out
        rw [drop_end (by omega)] at hd
        exact hd.symm
      clear hd
      go_wp2_with fail
      go_ret
      rw [V.out]
      exact ⟨rfl, rfl⟩

/-- The table of bytes that are there, so far. -/
def There (w : World) (tb : Nat) (l : List UInt8) : Prop := ∀ c : UInt8, Cel w tb c.toNat (.bool (l.contains c))
theorem zero_row : Tryz.zeroCells93 = Array.replicate 256 (.bool false) := by kernel_rfl
theorem zero_there (c : UInt8) : Tryz.zeroCells93[c.toNat]? = some (.bool false) := by
  rw [zero_row, Array.getElem?_replicate, if_pos c.toNat_lt]
theorem There.add {w : World} {tb : Nat} {l : List UInt8} (h : There w tb l) (c : UInt8) : There (w.setCell ⟨tb, c.toNat, none⟩ (.bool true)) tb (l ++ [c]) := fun x => by
  by_cases e : x = c
  · subst e
    have := cel_set (h x) (.bool true)
    rwa [show (l ++ [x]).contains x = true by simp]
  · have := cel_far (h x) (p := ⟨tb, c.toNat, none⟩) (fun q => e (UInt8.toNat_inj.1 (congrArg Addr.off q).symm)) (.bool true)
    rwa [show (l ++ [c]).contains x = l.contains x by simp [e]]

set_option maxRecDepth 100000 in
set_option maxHeartbeats 4000000 in
theorem all_any (s among : ByteArray) (hs : s.size ≤ 1000000) (ha : among.size ≤ 1000000) (w : World) :
    Calls Tryz.prog 29 #[.string s, .string among] w fun e w' => e = .returned (.bool (allIn s among)) ∧ Below w.heap.size w w' := by
  obtain ⟨res, hres⟩ : ∃ res, Hid (allIn s among = res) := ⟨_, rfl⟩
  rw [hres.out]
  have start : Aside (There (w.alloc (.cells Tryz.zeroCells93 93)) w.heap.size [] ∧ Keeps w (w.alloc (.cells Tryz.zeroCells93 93))) := ⟨fun c => cel_new _ _ _ _ _ (zero_there c), keeps_new _ _⟩
  go_enter Tryz.func29, Tryz.ntmps29
  go_wp2_with fail
  generalize w.alloc (.cells Tryz.zeroCells93 93) = W0 at start ⊢
  go_loopg [6] among.size (fun g v wr => ∃ i : Nat, v = .int .i64 i ∧ g + i = among.size ∧ Aside (There wr w.heap.size (among.data.toList.take i) ∧ Keeps w wr))
  case atStart => exact ⟨0, rfl, by omega, start.out⟩
  case round =>
    clear start
    obtain ⟨i, rfl, hg, hA⟩ := hrel
    by_cases hlt : i < among.size
    · obtain ⟨g, rfl⟩ : ∃ g, gk = g + 1 := ⟨gk - 1, by omega⟩
      have y0 : (i : Int) < (among.size : Int) := by omega
      have y1 : (0 : Int) ≤ (i : Int) := by omega
      obtain ⟨c0, z0⟩ := hA.out.1 (among[i]'hlt)
      have y2 : (among[i]'hlt).toNat < 256 := (among[i]'hlt).toNat_lt
      have N : Aside (There (wr.setCell ⟨w.heap.size, (among[i]'hlt).toNat, none⟩ (.bool true)) w.heap.size (among.data.toList.take (i + 1)) ∧ Keeps w (wr.setCell ⟨w.heap.size, (among[i]'hlt).toNat, none⟩ (.bool true))) := by
        refine ⟨?_, Below.setCell hA.out.2.out (p := ⟨w.heap.size, _, none⟩) (Nat.le_refl _) _⟩
        have := hA.out.1.add (among[i]'hlt)
        rw [← qread.get_at among i hlt] at this ⊢
        have e : among.data.toList.take (i + 1) = among.data.toList.take i ++ [among.get! i] := by
          have hl : i < among.data.toList.length := by rw [Array.length_toList]; exact hlt
          rw [List.take_succ_eq_append_getElem hl]
          congr 2
          have := byte_at hlt
          rw [List.getElem?_eq_getElem hl] at this
          exact Option.some.inj this
        rw [e]
        exact this
      clear hA
      go_wp2_with fail
      go_roundg g
      case measure => omega
      case rel => exact ⟨i + 1, rfl, by omega, N.out⟩
    · have y0 : ¬ (i : Int) < (among.size : Int) := by omega
      have T : Aside (There wr w.heap.size among.data.toList ∧ Keeps w wr) := by
        have := hA.out
        rwa [List.take_of_length_le (by rw [Array.length_toList]; show among.size ≤ i; omega)] at this
      clear hA
      go_wp2_with fail
      go_loopg [7] s.size (fun g v wq => ∃ j : Nat, v = .int .i64 j ∧ g + j = s.size ∧ Hid (((s.data.toList.drop j).all fun c => among.data.toList.contains c) = res) ∧ wr = wq)
      case atStart => exact ⟨0, rfl, by omega, hres, rfl⟩
      case round =>
        clear hres
        obtain ⟨j, rfl, hg, hd, rfl⟩ := hrel
        by_cases hlt : j < s.size
        · obtain ⟨g, rfl⟩ : ∃ g, gk = g + 1 := ⟨gk - 1, by omega⟩
          have z0 : (j : Int) < (s.size : Int) := by omega
          have z1 : (0 : Int) ≤ (j : Int) := by omega
          have hd := hd.out
          rw [allIn_at hlt, qread.get_at s j hlt] at hd
          obtain ⟨c0, -⟩ := T.out.1 (s[j]'hlt)
          have y2 : (s[j]'hlt).toNat < 256 := (s[j]'hlt).toNat_lt
          obtain ⟨q, hq⟩ : ∃ q, q = among.data.toList.contains (s[j]'hlt) := ⟨_, rfl⟩
          rw [← hq] at c0 hd
          clear hq
          cases q with
          | false =>
            have V : Aside (res = false) := hd.symm
            clear hd
            go_wp2_with fail
            go_ret
            rw [V.out]
            exact ⟨rfl, T.out.2⟩
          | true =>
            have V : Hid (((s.data.toList.drop (j + 1)).all fun c => among.data.toList.contains c) = res) := by rwa [Bool.true_and] at hd
            clear hd
            go_wp2_with fail
            go_roundg g
            case measure => omega
            case rel => exact ⟨j + 1, rfl, by omega, V, rfl⟩
        · have z0 : ¬ (j : Int) < (s.size : Int) := by omega
          have V : Aside (res = true) := by
            have hd := hd.out
            rw [drop_end (by omega)] at hd
            exact hd.symm
          clear hd
          go_wp2_with fail
          go_ret
          rw [V.out]
          exact ⟨rfl, T.out.2⟩
end Go.Proofs.YtahlkhaehlemcaaGreatDoor.rq
