/- ident.among and ident.read: a byte is looked for in a text; a text is gone through, and the first place at which it can't go on is told. -/
import Derived.Test.YtmaigbfmbhknhaaDoorFails
import Derived.Test.YtmaigbfmbhknhaaDoorShelf
import Derived.Deep.LoopGhost
namespace Go.Proofs.YtmaigbfmbhknhaaDoor.ident
open Go.RowKit Go.Proofs.YtmaigbfmbhknhaaDoor.errs

/-- Does a byte stand in a text? -/
def inB (s : ByteArray) (c : Int) : Bool := decide (0 ≤ Lib.indexByte s.data.toList c.toNat.toUInt8)
theorem among_any (c : Int) (s : ByteArray) (w : World) :
    Calls Tryd.prog 24 #[.int .u8 c, .string s] w fun e w' => e = .returned (.bool (inB s c)) ∧ w = w' := by
  have C := Tryd.strings_IndexByte s c w
  unfold inB
  generalize Lib.indexByte s.data.toList c.toNat.toUInt8 = n at *
  go_enter Tryd.func24, Tryd.ntmps24
  go_wp2_with (go_at_call 36; refine C.mono ?_; rintro e w' ⟨rfl, rfl⟩)
  go_ret
  exact ⟨rfl, rfl⟩

/-- The error's number and place at which a text can't go on, if there is one (so many bytes are left, from a place on). -/
def verdict (most : Nat) (whole : Bool) (can : Nat → Bool) : Nat → Nat → Option (Int × Nat)
  | 0, i => if whole then none else some (10, i)
  | g + 1, i => if i = most then some (14, i) else if can i then verdict most whole can g (i + 1) else some (11, i)
theorem verdict_end {most : Nat} {whole : Bool} {can : Nat → Bool} {i : Nat} : verdict most whole can 0 i = if whole then none else some (10, i) := rfl
theorem verdict_long {most : Nat} {whole : Bool} {can : Nat → Bool} {g i : Nat} (h : i = most) : verdict most whole can (g + 1) i = some (14, i) := by simp [verdict, h]
theorem verdict_form {most : Nat} {whole : Bool} {can : Nat → Bool} {g i : Nat} (h : ¬ i = most) (hc : can i = false) : verdict most whole can (g + 1) i = some (11, i) := by simp [verdict, h, hc]
theorem verdict_on {most : Nat} {whole : Bool} {can : Nat → Bool} {g i : Nat} (h : ¬ i = most) (hc : can i = true) : verdict most whole can (g + 1) i = verdict most whole can g (i + 1) := by simp [verdict, h, hc]

/-- What ident.read answers. -/
def ReadOut (o : Option (Int × Nat)) (w : World) (e : Ending) (w' : World) : Prop :=
  match o with
  | none => e = .returned .nilIface ∧ Keeps w w'
  | some (k, a) => Failed w e w' k a id

set_option maxHeartbeats 1000000 in
theorem read_any (s : ByteArray) (most : Nat) (whole : Bool) (g B : Nat) (can : Nat → Bool) (w : World) (eg : ∀ args w, (callFunc g args).run Tryd.prog w = .ok (.enter g args) w)
    (hcan : ∀ k, k < s.size → ∀ W, Keeps w W → Calls Tryd.prog g #[.int .i64 k, .pointer (some ⟨B, 0, none⟩)] W fun e w' => e = .returned (.bool (can k)) ∧ W = w') (hs : s.size ≤ 9223372036854775807) :
    Calls Tryd.prog 22 #[.string s, .int .i64 most, .bool whole, .func (.func g) #[] #[.pointer (some ⟨B, 0, none⟩)]] w fun e w' => ReadOut (verdict most whole can s.size 0) w e w' := by
  obtain ⟨res, hres⟩ : ∃ res, Hid (verdict most whole can s.size 0 = res) := ⟨_, rfl⟩
  rw [hres.out]
  obtain ⟨n, hn⟩ : ∃ n, Hid (s.size = n) := ⟨_, rfl⟩
  have HC : Aside (∀ k, k < s.size → ∀ W, Keeps w W → Calls Tryd.prog g #[.int .i64 k, .pointer (some ⟨B, 0, none⟩)] W fun e w' => e = .returned (.bool (can k)) ∧ W = w') := hcan
  clear hcan
  go_enter Tryd.func22, Tryd.ntmps22
  go_wp2_with fail
  go_loopg [12] s.size (fun g t wr => ∃ i : Nat, t = .int .i64 i ∧ g + i = s.size ∧ Keeps w wr ∧ Hid (verdict most whole can g i = res))
  case atStart => exact ⟨0, rfl, rfl, Keeps.refl _, hres⟩
  case round =>
    clear hres
    obtain ⟨i, rfl, hg, hk, hv⟩ := hrel
    cases gk with
    | zero =>
      have hi : i = s.size := by omega
      subst hi
      have y1 : ¬ ((s.size : Int) < (s.size : Int)) := by omega
      cases whole with
      | true =>
        have V : Aside (res = none) := hv.out.symm.trans rfl
        clear hv
        go_wp2_with fail
        go_ret
        rw [V.out]
        exact ⟨rfl, hk⟩
      | false =>
        have V : Aside (res = some (10, s.size)) := hv.out.symm.trans rfl
        have K : Aside (Keeps w wr) := hk
        clear hv hk
        go_wp2_with (go_at_call 35; refine (fail_any _ _ _).mono ?_; rintro e w'' ⟨rfl, rfl⟩)
        go_ret
        rw [V.out]
        exact failed_new w wr K.out 10 s.size id
    | succ g' =>
      have hlt : i < s.size := by omega
      have y1 : (i : Int) < (s.size : Int) := by omega
      have y0 : (0 : Int) ≤ (i : Int) := by omega
      by_cases hm : i = most
      · have V : Aside (res = some (14, i)) := hv.out.symm.trans (verdict_long hm)
        have K : Aside (Keeps w wr) := hk
        have y2 : ((i : Int) == (most : Int)) = true := beq_iff_eq.2 (by omega)
        clear hv hk hm
        go_wp2_with (go_at_call 35; refine (fail_any _ _ _).mono ?_; rintro e w'' ⟨rfl, rfl⟩)
        go_ret
        rw [V.out]
        exact failed_new w wr K.out 14 i id
      have y2 : ((i : Int) == (most : Int)) = false := beq_eq_false_iff_ne.2 (by omega)
      have C := HC.out i hlt wr hk
      have K : Aside (Keeps w wr) := hk
      cases hc : can i with
      | false =>
        rw [hc] at C
        have V : Aside (res = some (11, i)) := hv.out.symm.trans (verdict_form hm hc)
        clear hv hk hm hc
        go_wp2_with (first | (go_at_fn g; refine C.mono ?_; rintro e w' ⟨rfl, rfl⟩) | (go_at_call 35; refine (fail_any _ _ _).mono ?_; rintro e w'' ⟨rfl, rfl⟩))
        go_ret
        rw [V.out]
        exact failed_new w wr K.out 11 i id
      | true =>
        rw [hc] at C
        have hv : Hid (verdict most whole can g' (i + 1) = res) := (verdict_on hm hc).symm.trans hv.out
        clear hk hm hc
        go_wp2_with (go_at_fn g; refine C.mono ?_; rintro e w' ⟨rfl, rfl⟩)
        go_roundg g'
        case measure => omega
        case rel => exact ⟨i + 1, by go_num, by omega, K.out, hv⟩
end Go.Proofs.YtmaigbfmbhknhaaDoor.ident
