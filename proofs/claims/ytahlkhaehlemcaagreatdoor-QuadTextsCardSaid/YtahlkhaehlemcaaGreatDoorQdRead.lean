/- quad.read: a part's number, or what is wrong with it, and where. -/
import Derived.Test.YtahlkhaehlemcaaGreatDoorQdPublic
import Derived.Test.YtahlkhaehlemcaaGreatDoorQdBase
import Derived.Test.YtahlkhaehlemcaaGreatDoorQdFell
import Derived.Lib.Hide
set_option linter.unusedSimpArgs false
set_option linter.unusedVariables false
namespace Go.Proofs.YtahlkhaehlemcaaGreatDoor.qread
open Go.RowKit Go.Proofs.YtahlkhaehlemcaaGreatDoor.errs Go.Proofs.YtahlkhaehlemcaaGreatDoor.qmath

/-- What is left of a part from its first byte on that is no digit. -/
def alien (t : ByteArray) : List UInt8 := Lib.trimLeftS (restOf t).data.toList (digs (baseOf t))
inductive Got where
  | bad (k a : Nat)
  | num (n : Nat)
def readPart (t : ByteArray) : Got :=
  if t.size = 0 then .bad 10 0 else if alien t = [] then .num (numAt (num (baseOf t) 0 (restOf t).data.toList)) else .bad 11 (t.size - (alien t).length)

def ReadOut (g : Got) (at_ : Nat) (w : World) (e : Ending) (w' : World) : Prop :=
  match g with
  | .bad k a => Fell w e w' k ((at_ + a : Nat) : Int) fun v => .tuple #[.agg #[.int .i64 0, .int .u64 0], v]
  | .num n => e = .returned (.tuple #[.agg #[.int .i64 at_, .int .u64 n], .nilIface]) ∧ Below w.heap.size w w'

theorem empty_of (t : ByteArray) (h : t.size = 0) : t = ⟨#[]⟩ := by
  obtain ⟨d⟩ := t
  have : d = #[] := Array.size_eq_zero_iff.1 h
  rw [this]
theorem isEmpty_of (t : ByteArray) (h : t.size ≠ 0) : t.toList.isEmpty = false := by
  rw [← decide_eq_emptyBytes]
  exact decide_eq_false (fun e => h (by rw [e]; rfl))
theorem dropWhile_nil {p : UInt8 → Bool} : ∀ {l : List UInt8}, l.dropWhile p = [] → ∀ c ∈ l, p c = true
  | [], _, c, hc => by cases hc
  | x :: r, h, c, hc => by
    cases hx : p x with
    | true =>
      rw [List.dropWhile_cons_of_pos hx] at h
      rcases List.mem_cons.1 hc with rfl | hc
      · exact hx
      · exact dropWhile_nil h c hc
    | false =>
      rw [List.dropWhile_cons_of_neg (by simp [hx])] at h
      cases h
theorem digits_of {l cs : List UInt8} (h : Lib.trimLeftS l cs = []) : ∀ c ∈ l, cs.contains c = true := dropWhile_nil h
theorem rest_size (t : ByteArray) : (restOf t).size ≤ t.size := by
  unfold restOf
  split
  · rw [ByteArray.size_extract]; omega
  · split
    · rw [ByteArray.size_extract]; omega
    · exact Nat.le_refl _
theorem alien_size (t : ByteArray) : (alien t).length ≤ t.size := by
  unfold alien Lib.trimLeftS
  have := (List.dropWhile_sublist (l := (restOf t).data.toList) (p := fun x => (digs (baseOf t)).contains x)).length_le
  rw [← Lib.size_eq] at this
  exact Nat.le_trans this (rest_size t)
theorem cat_list (r : ByteArray) : (⟨#[48]⟩ ++ r : ByteArray).data.toList = 48 :: r.data.toList := by
  rw [ByteArray.data_append, Array.toList_append]
  rfl
theorem cat_size (r : ByteArray) : (⟨#[48]⟩ ++ r : ByteArray).size = r.size + 1 := by
  rw [ByteArray.size_append, show (⟨#[48]⟩ : ByteArray).size = 1 from rfl]
  omega
theorem num_cat (b : Nat) (l : List UInt8) : num b 0 (48 :: l) = num b 0 l := by
  rw [num_on (by rw [show dval 48 = 0 from rfl]; omega)]
  rw [show dval 48 = 0 from rfl]
  simp

def noPart (v : Value) : Value := .tuple #[.agg #[.int .i64 0, .int .u64 0], v]

set_option maxHeartbeats 4000000 in
theorem read_short (t : ByteArray) (at_ : Nat) (hs : t.size ≤ 1000) (ha : at_ ≤ 1000000) (w : World) (hv : RangeVar w) (h0 : t.size = 0) :
    Calls Tryz.prog 18 #[.string t, .int .i64 at_] w fun e w' => Fell w e w' (10 : Int) ((at_ : Nat) : Int) noPart := by
  obtain ⟨W, hW⟩ : ∃ W, W = w.alloc (.cells #[.int .i64 0, .int .u64 0] 43) := ⟨_, rfl⟩
  have k0 : Keeps w W := by rw [hW]; exact keeps_new _ _
  have c0 : Cel W w.heap.size 0 (.int .i64 0) := by rw [hW]; exact cel_new _ _ _ _ _ rfl
  have c1 : Cel W w.heap.size 1 (.int .u64 0) := by rw [hW]; exact cel_new _ _ _ _ _ rfl
  have A : Aside (Keeps w W ∧ Cel W w.heap.size 0 (.int .i64 0) ∧ Cel W w.heap.size 1 (.int .u64 0) ∧ w.heap.size < W.heap.size) := ⟨k0, c0, c1, by rw [hW]; simp⟩
  have hV : Aside (RangeVar W) := hv.below k0 (Nat.le_refl _)
  replace hW := Lib.hid hW
  clear k0 c0 c1 hv
  obtain rfl := empty_of t h0
  clear h0
  go_enter Tryz.func18, Tryz.ntmps18
  go_wp2_with fail
  rw [← hW.out]
  refine (fail_fell _ _ _).mono ?_; rintro e w1 ⟨bb, rfl, hF⟩
  obtain ⟨d0, z0⟩ := A.out.2.1.below hF.out.2.2
  obtain ⟨d1, z1⟩ := A.out.2.2.1.below hF.out.2.2
  go_wp2_with fail
  have hne : w.heap.size ≠ bb := by have := hF.out.1; have := A.out.2.2.2; omega
  exact bodyPost_ret (v := noPart (.iface 56 (.pointer (some ⟨bb, 0, none⟩)))) (by simp [results, Tryz.results18, go_sem, d0, d1, noPart]) rfl
    ⟨bb, rfl, by have := hF.out.1; have := A.out.2.2.2; omega, (hF.out.2.1.away (p := ⟨w.heap.size, 0, none⟩) hne _).away (p := ⟨w.heap.size, 1, none⟩) hne _, ((A.out.1.step hF.out.2.2).setCell (Nat.le_refl _) _).setCell (Nat.le_refl _) _⟩

set_option maxHeartbeats 4000000 in
theorem read_num (t : ByteArray) (at_ : Nat) (hs : t.size ≤ 1000) (ha : at_ ≤ 1000000) (w : World) (hv : RangeVar w) (h0 : ¬ t.size = 0) (h1 : alien t = []) :
    Calls Tryz.prog 18 #[.string t, .int .i64 at_] w fun e w' => e = .returned (.tuple #[.agg #[.int .i64 at_, .int .u64 (numAt (num (baseOf t) 0 (restOf t).data.toList))], .nilIface]) ∧ Below w.heap.size w w' := by
  obtain ⟨W, hW⟩ : ∃ W, W = w.alloc (.cells #[.int .i64 0, .int .u64 0] 43) := ⟨_, rfl⟩
  have k0 : Keeps w W := by rw [hW]; exact keeps_new _ _
  have c0 : Cel W w.heap.size 0 (.int .i64 0) := by rw [hW]; exact cel_new _ _ _ _ _ rfl
  have c1 : Cel W w.heap.size 1 (.int .u64 0) := by rw [hW]; exact cel_new _ _ _ _ _ rfl
  have A : Aside (Keeps w W ∧ Cel W w.heap.size 0 (.int .i64 0) ∧ Cel W w.heap.size 1 (.int .u64 0) ∧ w.heap.size < W.heap.size) := ⟨k0, c0, c1, by rw [hW]; simp⟩
  have hV : Aside (RangeVar W) := hv.below k0 (Nat.le_refl _)
  replace hW := Lib.hid hW
  clear k0 c0 c1 hv
  have E0 := isEmpty_of t h0
  have B1 := fun w => based_any t (by omega) w
  have hb := base_is t
  have D1 := fun w => digitsOf_any hb w
  have al : (⟨(alien t).toArray⟩ : ByteArray).size = (alien t).length := by show (alien t).toArray.size = _; simp
  have als := alien_size t
  have T1 : ∀ w, Calls Tryz.prog 40 #[.string (restOf t), .string ⟨(digs (baseOf t)).toArray⟩] w fun e w' => e = .returned (.string ⟨(alien t).toArray⟩) ∧ Below w.heap.size w w' := fun w => trimLeft_any hb (restOf t) w
  rw [h1] at T1
  have hd : ∀ c ∈ (⟨#[48]⟩ ++ restOf t : ByteArray).data.toList, isDig (baseOf t) c = true := by
    intro c hc
    rw [cat_list, List.mem_cons] at hc
    rw [← digs_any hb]
    rcases hc with rfl | hc
    · rcases hb with h | h | h <;> rw [h] <;> decide
    · exact digits_of h1 c hc
  have rs := rest_size t
  have cs := cat_size (restOf t)
  have U := fun w hv => public_any hb (⟨#[48]⟩ ++ restOf t) (by omega) (by omega) hd w hv
  rw [cat_list, num_cat] at U
  have rz : ((restOf t).size : Int) ≤ 1000 := by omega
  generalize numAt (num (baseOf t) 0 (restOf t).data.toList) = n at *
  generalize (⟨(digs (baseOf t)).toArray⟩ : ByteArray) = ds at *
  clear hd cs rs al als h1 hb
  generalize restOf t = r at *
  generalize baseOf t = b at *
  go_enter Tryz.func18, Tryz.ntmps18
  go_wp2_with fail
  rw [← hW.out]
  refine (B1 _).mono ?_; rintro e w1 ⟨rfl, rfl⟩
  go_wp2_with fail
  refine (D1 _).mono ?_; rintro e w1 ⟨rfl, rfl⟩
  go_wp2_with fail
  refine (T1 _).mono ?_; rintro e w1 ⟨rfl, hb1⟩
  have K := U w1 (hV.out.below hb1 (Nat.le_refl _))
  have k1 := A.out.1.step hb1
  go_wp2_with fail
  refine K.mono ?_; rintro e w2 ⟨x, rfl, hb2⟩
  obtain ⟨d0, z0⟩ := (A.out.2.1.below hb1).below hb2
  obtain ⟨d1, z1⟩ := (A.out.2.2.1.below hb1).below hb2
  have k2 := k1.step hb2
  go_wp2_with fail
  exact bodyPost_ret (v := .tuple #[.agg #[.int .i64 at_, .int .u64 n], .nilIface]) (by simp [results, Tryz.results18, go_sem, d0, d1]) rfl
    ⟨rfl, (k2.setCell (Nat.le_refl _) _).setCell (Nat.le_refl _) _⟩

set_option maxHeartbeats 4000000 in
theorem read_form (t : ByteArray) (at_ : Nat) (hs : t.size ≤ 1000) (ha : at_ ≤ 1000000) (w : World) (hv : RangeVar w) (h0 : ¬ t.size = 0) (h1 : ¬ alien t = []) :
    Calls Tryz.prog 18 #[.string t, .int .i64 at_] w fun e w' => Fell w e w' (11 : Int) ((at_ + (t.size - (alien t).length) : Nat) : Int) noPart := by
  obtain ⟨W, hW⟩ : ∃ W, W = w.alloc (.cells #[.int .i64 0, .int .u64 0] 43) := ⟨_, rfl⟩
  have k0 : Keeps w W := by rw [hW]; exact keeps_new _ _
  have c0 : Cel W w.heap.size 0 (.int .i64 0) := by rw [hW]; exact cel_new _ _ _ _ _ rfl
  have c1 : Cel W w.heap.size 1 (.int .u64 0) := by rw [hW]; exact cel_new _ _ _ _ _ rfl
  have A : Aside (Keeps w W ∧ Cel W w.heap.size 0 (.int .i64 0) ∧ Cel W w.heap.size 1 (.int .u64 0) ∧ w.heap.size < W.heap.size) := ⟨k0, c0, c1, by rw [hW]; simp⟩
  have hV : Aside (RangeVar W) := hv.below k0 (Nat.le_refl _)
  replace hW := Lib.hid hW
  clear k0 c0 c1 hv
  have E0 := isEmpty_of t h0
  have B1 := fun w => based_any t (by omega) w
  have hb := base_is t
  have D1 := fun w => digitsOf_any hb w
  have al : (⟨(alien t).toArray⟩ : ByteArray).size = (alien t).length := by show (alien t).toArray.size = _; simp
  have als := alien_size t
  have T1 : ∀ w, Calls Tryz.prog 40 #[.string (restOf t), .string ⟨(digs (baseOf t)).toArray⟩] w fun e w' => e = .returned (.string ⟨(alien t).toArray⟩) ∧ Below w.heap.size w w' := fun w => trimLeft_any hb (restOf t) w
  have E1 := isEmpty_of (⟨(alien t).toArray⟩ : ByteArray) (by rw [al]; exact fun e => h1 (List.length_eq_zero_iff.1 e))
  rw [← al] at als ⊢
  generalize (⟨(alien t).toArray⟩ : ByteArray) = a at *
  generalize (⟨(digs (baseOf t)).toArray⟩ : ByteArray) = ds at *
  clear hb h1 al
  generalize restOf t = r at *
  generalize baseOf t = b at *
  rw [show ((at_ + (t.size - a.size) : Nat) : Int) = (at_ : Int) + t.size - a.size by omega]
  go_enter Tryz.func18, Tryz.ntmps18
  go_wp2_with fail
  rw [← hW.out]
  refine (B1 _).mono ?_; rintro e w1 ⟨rfl, rfl⟩
  go_wp2_with fail
  refine (D1 _).mono ?_; rintro e w1 ⟨rfl, rfl⟩
  go_wp2_with fail
  refine (T1 _).mono ?_; rintro e w1 ⟨rfl, hb1⟩
  go_wp2_with fail
  refine (fail_fell _ _ _).mono ?_; rintro e w2 ⟨bb, rfl, hF⟩
  obtain ⟨d0, z0⟩ := (A.out.2.1.below hb1).below hF.out.2.2
  obtain ⟨d1, z1⟩ := (A.out.2.2.1.below hb1).below hF.out.2.2
  have k2 := (A.out.1.step hb1).step hF.out.2.2
  have hlt : w.heap.size < bb := by have := hF.out.1; have := A.out.2.2.2; have := hb1.size; omega
  go_wp2_with fail
  have hne : w.heap.size ≠ bb := Nat.ne_of_lt hlt
  exact bodyPost_ret (v := noPart (.iface 56 (.pointer (some ⟨bb, 0, none⟩)))) (by simp [results, Tryz.results18, go_sem, d0, d1, noPart]) rfl
    ⟨bb, rfl, Nat.le_of_lt hlt, (hF.out.2.1.away (p := ⟨w.heap.size, 0, none⟩) hne _).away (p := ⟨w.heap.size, 1, none⟩) hne _, (k2.setCell (Nat.le_refl _) _).setCell (Nat.le_refl _) _⟩

theorem read_any (t : ByteArray) (at_ : Nat) (hs : t.size ≤ 1000) (ha : at_ ≤ 1000000) (w : World) (hv : RangeVar w) :
    Calls Tryz.prog 18 #[.string t, .int .i64 at_] w fun e w' => ReadOut (readPart t) at_ w e w' := by
  unfold readPart
  by_cases h0 : t.size = 0
  · rw [if_pos h0]
    exact read_short t at_ hs ha w hv h0
  rw [if_neg h0]
  by_cases h1 : alien t = []
  · rw [if_pos h1]
    exact read_num t at_ hs ha w hv h0 h1
  · rw [if_neg h1]
    exact read_form t at_ hs ha w hv h0 h1
end Go.Proofs.YtahlkhaehlemcaaGreatDoor.qread
