/- Plain mathematics of layer 19: a pattern's parts. subst.first. -/
import Derived.Test.YtoilalffhmjhdaaGreatDoorSbHold
import Derived.Lib.IndexMore
set_option linter.unusedSimpArgs false
set_option linter.unusedVariables false
namespace Go.Proofs.YtoilalffhmjhdaaGreatDoor.subst
open Go.RowKit Go.Proofs.YtoilalffhmjhdaaGreatDoor.errs Go.Proofs.YtoilalffhmjhdaaGreatDoor.rows Go.Proofs.YtoilalffhmjhdaaGreatDoor.utf

/-- Does a text begin as a variable does? -/
def begin2 : List UInt8 → Bool
  | a :: b :: _ => a == 36 && b == 40
  | _ => false
theorem prefix2 (l : List UInt8) : List.isPrefixOf [36, 40] l = begin2 l := by
  match l with
  | [] => rfl
  | [a] =>
    show ((36 == a) && false) = false
    rw [Bool.and_false]
  | a :: b :: r =>
    show ((36 == a) && ((40 == b) && true)) = (a == 36 && b == 40)
    rw [Bool.and_true, Bool.beq_comm (a := a), Bool.beq_comm (a := b)]
/-- How many bytes stand ahead of the first variable's beginning. -/
def leadN : List UInt8 → Nat
  | [] => 0
  | c :: r => if begin2 (c :: r) then 0 else leadN r + 1
theorem leadN_le : ∀ l : List UInt8, leadN l ≤ l.length
  | [] => Nat.le_refl _
  | c :: r => by
    unfold leadN
    split
    · exact Nat.zero_le _
    · have := leadN_le r; rw [List.length_cons]; omega
theorem index_lead : ∀ l : List UInt8, (Lib.index l [36, 40] = -1 ∧ leadN l = l.length) ∨ (Lib.index l [36, 40] = (leadN l : Int) ∧ leadN l < l.length)
  | [] => .inl ⟨rfl, rfl⟩
  | c :: r => by
    unfold Lib.index leadN
    rw [prefix2]
    cases h : begin2 (c :: r) with
    | true => exact .inr ⟨rfl, by rw [if_pos rfl, List.length_cons]; omega⟩
    | false =>
      simp only [Bool.false_eq_true, if_false]
      rcases index_lead r with ⟨h1, h2⟩ | ⟨h1, h2⟩
      · rw [h1]; exact .inl ⟨rfl, by rw [h2, List.length_cons]⟩
      · rw [h1, if_neg (by rw [beq_iff_eq]; omega)]
        exact .inr ⟨by omega, by rw [List.length_cons]; omega⟩
theorem cut_lead (l : List UInt8) : (Lib.cut l [36, 40]).1 = l.take (leadN l) := by
  unfold Lib.cut
  rcases index_lead l with ⟨h1, h2⟩ | ⟨h1, h2⟩
  · rw [h1, if_neg (by decide), h2, List.take_length]
  · rw [h1, if_pos (by omega), Int.toNat_natCast]
/-- How many bytes stand ahead of the first closing bracket. -/
def endN (l : List UInt8) : Nat := (l.takeWhile (· != 41)).length
theorem index_end : ∀ l : List UInt8, (Lib.index l [41] = -1 ∧ endN l = l.length) ∨ (Lib.index l [41] = (endN l : Int) ∧ endN l < l.length)
  | [] => .inl ⟨rfl, rfl⟩
  | c :: r => by
    unfold Lib.index
    have hp : List.isPrefixOf [41] (c :: r) = (41 == c) := by show ((41 == c) && true) = _; rw [Bool.and_true]
    rw [hp]
    by_cases h : c = 41
    · subst h
      exact .inr ⟨rfl, by unfold endN; rw [List.takeWhile_cons, if_neg (by decide)]; simp⟩
    · have e1 : ((41 : UInt8) == c) = false := beq_eq_false_iff_ne.2 (fun q => h q.symm)
      have e2 : endN (c :: r) = endN r + 1 := by unfold endN; rw [List.takeWhile_cons, if_pos (by simpa using h), List.length_cons]
      rw [e1, if_neg (by decide), e2]
      rcases index_end r with ⟨h1, h2⟩ | ⟨h1, h2⟩
      · rw [h1]; exact .inl ⟨rfl, by rw [h2, List.length_cons]⟩
      · rw [h1, if_neg (by rw [beq_iff_eq]; omega)]
        exact .inr ⟨by omega, by rw [List.length_cons]; omega⟩
theorem cut_end_no {l : List UInt8} (h : ¬ endN l < l.length) : (Lib.cut l [41]).2.2 = false := by
  unfold Lib.cut
  rcases index_end l with ⟨h1, h2⟩ | ⟨h1, h2⟩
  · rw [h1, if_neg (by decide)]
  · exact absurd h2 h
theorem cut_end_yes {l : List UInt8} (h : endN l < l.length) : (Lib.cut l [41]).2.2 = true ∧ (Lib.cut l [41]).1 = l.take (endN l) := by
  unfold Lib.cut
  rcases index_end l with ⟨h1, h2⟩ | ⟨h1, h2⟩
  · omega
  · rw [h1, if_pos (by omega)]
    exact ⟨rfl, by rw [Int.toNat_natCast]⟩

/-- A part: its kind, its text, a variable's name. -/
structure Pt where
  kind : Nat
  text : List UInt8
  name : List UInt8
/-- A part's text, as it is handed on (no pattern is longer). -/
def Pt.tx (p : Pt) : List UInt8 := p.text.take 1000000
def firstP (l : List UInt8) : Pt :=
  if begin2 l then (if endN (l.drop 2) < (l.drop 2).length then ⟨1, l.take (endN (l.drop 2) + 3), (l.drop 2).take (endN (l.drop 2))⟩ else ⟨2, l, []⟩) else ⟨0, l.take (leadN l), []⟩
theorem begin2_len {l : List UInt8} (h : begin2 l = true) : 2 ≤ l.length := by
  match l, h with
  | a :: b :: r, _ => simp
theorem first_pos {l : List UInt8} (h : l ≠ []) : 0 < (firstP l).text.length ∧ (firstP l).text = l.take (firstP l).text.length ∧ (firstP l).text.length ≤ l.length := by
  have hl : 0 < l.length := List.length_pos_iff.2 h
  unfold firstP
  cases hb : begin2 l with
  | true =>
    rw [if_pos rfl]
    have h2 := begin2_len hb
    by_cases he : endN (l.drop 2) < (l.drop 2).length
    · rw [if_pos he]
      rw [List.length_drop] at he
      show 0 < (l.take _).length ∧ l.take _ = l.take (l.take _).length ∧ (l.take _).length ≤ _
      rw [List.length_take, Nat.min_eq_left (by omega)]
      exact ⟨by omega, rfl, by omega⟩
    · rw [if_neg he]
      exact ⟨hl, (List.take_length).symm, Nat.le_refl _⟩
  | false =>
    rw [if_neg (by decide)]
    have hle := leadN_le l
    show 0 < (l.take _).length ∧ l.take _ = l.take (l.take _).length ∧ (l.take _).length ≤ _
    rw [List.length_take, Nat.min_eq_left hle]
    refine ⟨?_, rfl, hle⟩
    cases l with
    | nil => exact absurd rfl h
    | cons c r => unfold leadN; rw [hb, if_neg (by decide)]; omega
/-- All parts, with their places (so many are left at most). -/
def partsF : Nat → Nat → List UInt8 → List (Nat × Pt)
  | 0, _, _ => []
  | g + 1, i, l => if l = [] then [] else (i, firstP l) :: partsF g (i + (firstP l).text.length) (l.drop (firstP l).text.length)
def partsOf (l : List UInt8) : List (Nat × Pt) := partsF l.length 0 l
theorem parts_end (g i : Nat) : partsF g i [] = [] := by
  cases g with
  | zero => rfl
  | succ g => simp [partsF]
theorem parts_step (g i : Nat) {l : List UInt8} (h : l ≠ []) : partsF (g + 1) i l = (i, firstP l) :: partsF g (i + (firstP l).text.length) (l.drop (firstP l).text.length) := by
  show (if l = [] then _ else _) = _
  rw [if_neg h]
theorem parts_len : ∀ (g i : Nat) (l : List UInt8), (partsF g i l).length ≤ g
  | 0, _, _ => Nat.le_refl _
  | g + 1, i, l => by
    by_cases h : l = []
    · rw [h, parts_end]; exact Nat.zero_le _
    · rw [parts_step g i h, List.length_cons]
      have := parts_len g (i + (firstP l).text.length) (l.drop (firstP l).text.length)
      omega
def ptV (p : Pt) : Value := .agg #[.int .i64 (p.kind : Int), .string (T p.text), .string (T p.name)]

theorem mlA {w : World} {m : Int} (h : w.cell? ⟨2, 0, none⟩ = some (.int .i64 m)) (o : Obj) : (w.alloc o).cell? ⟨2, 0, none⟩ = some (.int .i64 m) := by
  rw [World.cell?_alloc_lt _ _ _ (lt_of_cell h)]; exact h
set_option maxRecDepth 100000 in
set_option maxHeartbeats 2000000 in
theorem first_any (l : List UInt8) (hl : l.length ≤ 1000000) (w : World) (hM : MaxL w) :
    Calls Tryz.prog 45 #[.string (T l)] w fun e w' => e = .returned (ptV (firstP l)) ∧ Below w.heap.size w w' := by
  obtain ⟨m, hm⟩ := hM
  have CP := fun w => Tryz.strings_CutPrefix (T l) (T [36, 40]) w
  have hlw : w.heap.size ≤ w.heap.size := Nat.le_refl _
  unfold firstP ptV
  rw [T_list, T_list, show Lib.hasPrefix l [36, 40] = begin2 l from prefix2 l] at CP
  cases hb : begin2 l with
  | false =>
    have CT := fun (w : World) (h : w.cell? ⟨2, 0, none⟩ = some (.int .i64 m)) => Tryz.strings_Cut (T l) (T [36, 40]) m w (by show l.length < _; omega) h
    rw [T_list, T_list, cut_lead] at CT
    rw [hb] at CP
    rw [if_neg (by decide)]
    show Calls Tryz.prog 45 #[.string (T l)] w fun e w' => e = .returned (.agg #[.int .i64 0, .string (T (l.take (leadN l))), .string ⟨#[]⟩]) ∧ Below w.heap.size w w'
    have CT : ∀ w : World, w.cell? ⟨2, 0, none⟩ = some (.int .i64 m) → Calls Tryz.prog 71 #[.string (T l), .string (T [36, 40])] w fun e w' => ∃ b q, e = .returned (.tuple #[.string (T (l.take (leadN l))), .string b, .bool q]) ∧ ∃ n, w' = w.drewN n := fun w h => (CT w h).mono fun e w' ⟨h1, h2⟩ => ⟨_, _, h1, h2⟩
    have CP : ∀ w : World, Calls Tryz.prog 70 #[.string (T l), .string (T [36, 40])] w fun e w' => ∃ b, e = .returned (.tuple #[.string b, .bool false]) ∧ w' = w := fun w => (CP w).mono fun e w' ⟨h1, h2⟩ => ⟨_, h1, h2⟩
    have hm2 := mlA hm (.cells #[.int .i64 0, .string ⟨#[]⟩, .string ⟨#[]⟩] 55)
    generalize T (l.take (leadN l)) = tx at *
    generalize T l = s at *
    clear hb hm hl
    go_enter Tryz.func45, Tryz.ntmps45
    go_wp2_with fail
    refine (CP _).mono ?_; rintro e w1 ⟨b, rfl, rfl⟩
    go_wp2_with fail
    refine (CT _ hm2).mono ?_; rintro e w2 ⟨b2, q, rfl, n, rfl⟩
    go_wp2_with fail
    refine bodyPost_ret (v := .agg #[.int .i64 0, .string tx, .string ⟨#[]⟩]) (by simp [results, Tryz.results45, go_sem]) rfl ⟨rfl, ?_⟩
    have K : Below w.heap.size w ((w.alloc (.cells #[.int .i64 0, .string ⟨#[]⟩, .string ⟨#[]⟩] 55)).drewN n) := below_drewN ((Below.refl _ _).alloc (Nat.le_refl _) _) n
    exact ((K.setCell (p := ⟨w.heap.size, 0, none⟩) (Nat.le_refl _) _).setCell (p := ⟨w.heap.size, 1, none⟩) (Nat.le_refl _) _).setCell (p := ⟨w.heap.size, 2, none⟩) (Nat.le_refl _) _
  | true =>
    have h2 := begin2_len hb
    have CT := fun (w : World) (h : w.cell? ⟨2, 0, none⟩ = some (.int .i64 m)) => Tryz.strings_Cut (T (l.drop 2)) (T [41]) m w (by show (l.drop 2).length < _; rw [List.length_drop]; omega) h
    rw [T_list, T_list] at CT
    have et : Lib.trimPrefix l [36, 40] = l.drop 2 := by
      unfold Lib.trimPrefix
      rw [show Lib.hasPrefix l [36, 40] = true from (prefix2 l).trans hb, if_pos rfl]; rfl
    rw [hb, et] at CP
    rw [if_pos rfl]
    have CP : ∀ w : World, Calls Tryz.prog 70 #[.string (T l), .string (T [36, 40])] w fun e w' => e = .returned (.tuple #[.string (T (l.drop 2)), .bool true]) ∧ w' = w := CP
    have hm2 := mlA hm (.cells #[.int .i64 0, .string ⟨#[]⟩, .string ⟨#[]⟩] 55)
    by_cases he : endN (l.drop 2) < (l.drop 2).length
    · rw [if_pos he]
      obtain ⟨c1, c2⟩ := cut_end_yes he
      rw [c1, c2] at CT
      have CT : ∀ w : World, w.cell? ⟨2, 0, none⟩ = some (.int .i64 m) → Calls Tryz.prog 71 #[.string (T (l.drop 2)), .string (T [41])] w fun e w' => ∃ b, e = .returned (.tuple #[.string (T ((l.drop 2).take (endN (l.drop 2)))), .string b, .bool true]) ∧ ∃ n, w' = w.drewN n := fun w h => (CT w h).mono fun e w' ⟨h1, h2⟩ => ⟨_, h1, h2⟩
      have hnz : (T ((l.drop 2).take (endN (l.drop 2)))).size = endN (l.drop 2) := by show ((l.drop 2).take _).length = _; rw [List.length_take]; omega
      rw [List.length_drop] at he
      have hx : (T l).extract 0 (2 + endN (l.drop 2) + 1) = T (l.take (endN (l.drop 2) + 3)) := by
        apply ByteArray.ext
        apply Array.toList_inj.1
        show ((T l).extract 0 _).data.toList = l.take _
        rw [ByteArray.data_extract, Array.toList_extract, List.extract_eq_take_drop, List.drop_zero, Nat.sub_zero, show 2 + endN (l.drop 2) + 1 = endN (l.drop 2) + 3 by omega]
        rfl
      have y0 : 2 + (endN (l.drop 2) : Int) + 1 ≤ ((T l).size : Int) := by show _ ≤ ((l.length : Nat) : Int); omega
      have y1 : (endN (l.drop 2) : Int) ≤ 1000000 := by omega
      generalize endN (l.drop 2) = n1 at *
      generalize T ((l.drop 2).take n1) = nm at *
      generalize T (l.take (n1 + 3)) = tx at *
      generalize T (l.drop 2) = rs at *
      generalize T l = s at *
      have HX := Lib.hid hx
      show Calls Tryz.prog 45 #[.string s] w fun e w' => e = .returned (.agg #[.int .i64 1, .string tx, .string nm]) ∧ Below w.heap.size w w'
      clear hb hm hl et c1 c2 hx
      go_enter Tryz.func45, Tryz.ntmps45
      go_wp2_with fail
      refine (CP _).mono ?_; rintro e w1 ⟨rfl, rfl⟩
      go_wp2_with fail
      refine (CT _ hm2).mono ?_; rintro e w2 ⟨b2, rfl, n, rfl⟩
      go_wp2_with fail
      refine bodyPost_ret (v := .agg #[.int .i64 1, .string tx, .string nm]) (by simp [results, Tryz.results45, go_sem, HX.out]) rfl ⟨rfl, ?_⟩
      have K : Below w.heap.size w ((w.alloc (.cells #[.int .i64 0, .string ⟨#[]⟩, .string ⟨#[]⟩] 55)).drewN n) := below_drewN ((Below.refl _ _).alloc (Nat.le_refl _) _) n
      exact ((K.setCell (p := ⟨w.heap.size, 0, none⟩) (Nat.le_refl _) _).setCell (p := ⟨w.heap.size, 1, none⟩) (Nat.le_refl _) _).setCell (p := ⟨w.heap.size, 2, none⟩) (Nat.le_refl _) _
    · rw [if_neg he]
      have CT : ∀ w : World, w.cell? ⟨2, 0, none⟩ = some (.int .i64 m) → Calls Tryz.prog 71 #[.string (T (l.drop 2)), .string (T [41])] w fun e w' => ∃ a b, e = .returned (.tuple #[.string a, .string b, .bool false]) ∧ ∃ n, w' = w.drewN n := fun w h => (CT w h).mono fun e w' ⟨h1, h2⟩ => ⟨_, _, by rw [cut_end_no he] at h1; exact h1, h2⟩
      show Calls Tryz.prog 45 #[.string (T l)] w fun e w' => e = .returned (.agg #[.int .i64 2, .string (T l), .string ⟨#[]⟩]) ∧ Below w.heap.size w w'
      generalize T (l.drop 2) = rs at *
      generalize T l = s at *
      clear hb hm hl et he
      go_enter Tryz.func45, Tryz.ntmps45
      go_wp2_with fail
      refine (CP _).mono ?_; rintro e w1 ⟨rfl, rfl⟩
      go_wp2_with fail
      refine (CT _ hm2).mono ?_; rintro e w2 ⟨a2, b2, rfl, n, rfl⟩
      go_wp2_with fail
      refine bodyPost_ret (v := .agg #[.int .i64 2, .string s, .string ⟨#[]⟩]) (by simp [results, Tryz.results45, go_sem]) rfl ⟨rfl, ?_⟩
      have K : Below w.heap.size w ((w.alloc (.cells #[.int .i64 0, .string ⟨#[]⟩, .string ⟨#[]⟩] 55)).drewN n) := below_drewN ((Below.refl _ _).alloc (Nat.le_refl _) _) n
      exact ((K.setCell (p := ⟨w.heap.size, 0, none⟩) (Nat.le_refl _) _).setCell (p := ⟨w.heap.size, 1, none⟩) (Nat.le_refl _) _).setCell (p := ⟨w.heap.size, 2, none⟩) (Nat.le_refl _) _
end Go.Proofs.YtoilalffhmjhdaaGreatDoor.subst
