/- Fingerprints as lists of 32 bytes: their order, and the one list of given members that rises strictly. No program stands in it. -/
import Derived.Sort.Walk0
import GoSem.Extern.BytealgCompare
namespace Go.Proofs.YtmaigbfmbhknhaaDoor.prints
open Go

/-- A fingerprint: 32 bytes. -/
def Pr : Type := { l : List UInt8 // l.length = 32 }
instance : DecidableEq Pr := inferInstanceAs (DecidableEq { l : List UInt8 // l.length = 32 })
instance : Inhabited Pr := ⟨⟨List.replicate 32 0, by simp⟩⟩

/-- Its cells. -/
def enc (p : Pr) : List Value := p.1.map fun c => .int .u8 c.toNat
theorem enc_length (p : Pr) : (enc p).length = 32 := by unfold enc; rw [List.length_map]; exact p.2
theorem enc_one (p : Pr) : ∀ v ∈ enc p, v.oneCell' = true := by
  intro v hv
  obtain ⟨c, -, rfl⟩ := List.mem_map.1 hv
  rfl
theorem enc_inj {p q : Pr} (h : enc p = enc q) : p = q := by
  apply Subtype.ext
  unfold enc at h
  exact List.map_inj_right (fun a b e => by
    have e : (a.toNat : Int) = (b.toNat : Int) := by injection e
    exact UInt8.toNat_inj.1 (by omega)) |>.1 h

/-- Does one come ahead of another? -/
def lt (p q : Pr) : Bool := Op.bytesLess p.1 q.1

theorem less_irrefl : ∀ l : List UInt8, Op.bytesLess l l = false
  | [] => rfl
  | a :: l => by
    have := less_irrefl l
    simp [Op.bytesLess, this]
theorem less_trans : ∀ l m n : List UInt8, Op.bytesLess l m = true → Op.bytesLess m n = true → Op.bytesLess l n = true
  | _, [], _, h, _ => by simp [Op.bytesLess] at h
  | _, _ :: _, [], _, h => by simp [Op.bytesLess] at h
  | [], _ :: _, _ :: _, _, _ => rfl
  | a :: l, b :: m, c :: n, h1, h2 => by
    simp only [Op.bytesLess, Bool.or_eq_true, decide_eq_true_eq, Bool.and_eq_true, beq_iff_eq] at h1 h2 ⊢
    rcases h1 with h1 | ⟨rfl, h1⟩ <;> rcases h2 with h2 | ⟨rfl, h2⟩
    · exact .inl (UInt8.lt_trans h1 h2)
    · exact .inl h1
    · exact .inl h2
    · exact .inr ⟨rfl, less_trans l m n h1 h2⟩
theorem less_total : ∀ l m : List UInt8, Op.bytesLess l m = false → Op.bytesLess m l = false → l = m
  | [], [], _, _ => rfl
  | [], _ :: _, h, _ => by simp [Op.bytesLess] at h
  | _ :: _, [], _, h => by simp [Op.bytesLess] at h
  | a :: l, b :: m, h1, h2 => by
    simp only [Op.bytesLess, Bool.or_eq_false_iff, decide_eq_false_iff_not, Bool.and_eq_false_iff, beq_eq_false_iff_ne] at h1 h2
    have e : a = b := UInt8.le_antisymm (UInt8.not_lt.1 h2.1) (UInt8.not_lt.1 h1.1)
    subst e
    rw [less_total l m (h1.2.resolve_left (fun h => h rfl)) (h2.2.resolve_left (fun h => h rfl))]

theorem lt_irrefl (p : Pr) : lt p p = false := less_irrefl _
theorem lt_trans {p q r : Pr} (h1 : lt p q = true) (h2 : lt q r = true) : lt p r = true := less_trans _ _ _ h1 h2
theorem lt_total {p q : Pr} (h1 : lt p q = false) (h2 : lt q p = false) : p = q := Subtype.ext (less_total _ _ h1 h2)
theorem lt_asymm {p q : Pr} (h : lt p q = true) : lt q p = false := by
  cases h2 : lt q p with
  | false => rfl
  | true => have := lt_trans h h2; rw [lt_irrefl] at this; cases this

/-- What Go's comparison of bytes tells. -/
def cf (p q : Pr) : Int := if p = q then 0 else if lt p q then -1 else 1
theorem ltOf_cf (p q : Pr) : decide (cf p q < 0) = lt p q := by
  unfold cf
  by_cases h : p = q
  · subst h; rw [if_pos rfl, lt_irrefl]; rfl
  · rw [if_neg h]; cases lt p q <;> rfl

def Strict (l : List Pr) : Prop := l.Pairwise fun p q => lt p q = true
theorem strict_unique : ∀ l m : List Pr, Strict l → Strict m → (∀ x, x ∈ l ↔ x ∈ m) → l = m
  | [], [], _, _, _ => rfl
  | [], b :: m, _, _, h => by have := (h b).2 (List.mem_cons_self ..); cases this
  | a :: l, [], _, _, h => by have := (h a).1 (List.mem_cons_self ..); cases this
  | a :: l, b :: m, h1, h2, h => by
    obtain ⟨ha, h1⟩ := List.pairwise_cons.1 h1
    obtain ⟨hb, h4⟩ := List.pairwise_cons.1 h2
    have e : a = b := by
      rcases List.mem_cons.1 ((h a).1 (List.mem_cons_self ..)) with e | e
      · exact e
      rcases List.mem_cons.1 ((h b).2 (List.mem_cons_self ..)) with e' | e'
      · exact e'.symm
      have := lt_asymm (hb a e)
      rw [ha b e'] at this
      cases this
    subst e
    congr 1
    refine strict_unique l m h1 h4 fun x => ⟨fun hx => ?_, fun hx => ?_⟩
    · rcases List.mem_cons.1 ((h x).1 (List.mem_cons_of_mem _ hx)) with e | e
      · subst e; have := ha x hx; rw [lt_irrefl] at this; cases this
      · exact e
    · rcases List.mem_cons.1 ((h x).2 (List.mem_cons_of_mem _ hx)) with e | e
      · subst e; have := hb x hx; rw [lt_irrefl] at this; cases this
      · exact e

/-- One more member, where it belongs: how many come ahead of it, and it behind these. -/
def place (l : List Pr) (x : Pr) : Nat := (l.takeWhile fun y => lt y x).length
def ins (l : List Pr) (x : Pr) : List Pr := if x ∈ l then l else l.take (place l x) ++ [x] ++ l.drop (place l x)
theorem ins_mem (l : List Pr) (x y : Pr) : y ∈ ins l x ↔ y ∈ l ∨ y = x := by
  unfold ins
  split
  · exact ⟨.inl, fun h => h.elim id fun e => e ▸ ‹_›⟩
  · rw [List.mem_append, List.mem_append, List.mem_singleton]
    conv => rhs; rw [← List.take_append_drop (place l x) l, List.mem_append]
    constructor
    · rintro ((h | h) | h)
      · exact .inl (.inl h)
      · exact .inr h
      · exact .inl (.inr h)
    · rintro ((h | h) | h)
      · exact .inl (.inl h)
      · exact .inr h
      · exact .inl (.inr h)
theorem take_place (l : List Pr) (x : Pr) : l.take (place l x) = l.takeWhile fun y => lt y x := by
  unfold place
  induction l with
  | nil => rfl
  | cons a l ih =>
    rw [List.takeWhile_cons]
    split
    · rw [List.length_cons, List.take_succ_cons, ih]
    · rfl
theorem drop_place (l : List Pr) (x : Pr) : l.drop (place l x) = l.dropWhile fun y => lt y x := by
  unfold place
  induction l with
  | nil => rfl
  | cons a l ih =>
    rw [List.takeWhile_cons, List.dropWhile_cons]
    split
    · rw [List.length_cons, List.drop_succ_cons, ih]
    · rfl
theorem dropWhile_ge : ∀ (l : List Pr) (x : Pr), Strict l → x ∉ l → ∀ y ∈ l.dropWhile (fun y => lt y x), lt x y = true
  | [], _, _, _, y, h => by cases h
  | a :: l, x, hs, hx, y, h => by
    obtain ⟨ha, hs⟩ := List.pairwise_cons.1 hs
    rw [List.dropWhile_cons] at h
    have hax : a ≠ x := fun e => hx (e ▸ List.mem_cons_self ..)
    cases hl : lt a x with
    | true =>
      rw [if_pos hl] at h
      exact dropWhile_ge l x hs (fun hm => hx (List.mem_cons_of_mem _ hm)) y h
    | false =>
      rw [if_neg (by rw [hl]; decide)] at h
      have hxa : lt x a = true := by
        cases hc : lt x a with
        | true => rfl
        | false => exact absurd (lt_total hl hc) hax
      rcases List.mem_cons.1 h with e | e
      · subst e; exact hxa
      · exact lt_trans hxa (ha y e)
theorem takeWhile_imp {x : Pr} : ∀ (l : List Pr) (y : Pr), y ∈ l.takeWhile (fun y => lt y x) → lt y x = true
  | [], _, h => by cases h
  | a :: l, y, h => by
    rw [List.takeWhile_cons] at h
    cases hl : lt a x with
    | true =>
      rw [if_pos hl] at h
      rcases List.mem_cons.1 h with e | e
      · subst e; exact hl
      · exact takeWhile_imp l y e
    | false => rw [if_neg (by rw [hl]; decide)] at h; cases h
theorem ins_strict {l : List Pr} {x : Pr} (h : Strict l) : Strict (ins l x) := by
  unfold ins
  split
  · exact h
  · rename_i hx
    have h2 := h
    rw [show l = l.take (place l x) ++ l.drop (place l x) from (List.take_append_drop _ _).symm] at h2
    obtain ⟨h3, h4, h5⟩ := List.pairwise_append.1 h2
    have lo : ∀ y ∈ l.take (place l x), lt y x = true := by
      rw [take_place]; exact fun y hy => takeWhile_imp l y hy
    have hi : ∀ y ∈ l.drop (place l x), lt x y = true := by
      rw [drop_place]; exact dropWhile_ge l x h hx
    rw [List.append_assoc]
    refine List.pairwise_append.2 ⟨h3, List.pairwise_cons.2 ⟨hi, h4⟩, fun y hy z hz => ?_⟩
    rcases List.mem_append.1 hz with hz | hz
    · rw [List.mem_singleton.1 hz]; exact lo y hy
    · exact h5 y hy z hz
/-- The document's answer. -/
def wanted (zs : List Pr) : List Pr := zs.foldl ins []
theorem foldl_ins : ∀ (zs l : List Pr), Strict l → Strict (zs.foldl ins l) ∧ ∀ y, y ∈ zs.foldl ins l ↔ y ∈ l ∨ y ∈ zs
  | [], l, h => ⟨h, fun y => ⟨.inl, fun h => h.elim id fun h => by cases h⟩⟩
  | x :: zs, l, h => by
    obtain ⟨h1, h2⟩ := foldl_ins zs (ins l x) (ins_strict h)
    refine ⟨h1, fun y => ?_⟩
    rw [List.foldl_cons, h2, ins_mem, List.mem_cons, or_assoc]
theorem wanted_strict (zs : List Pr) : Strict (wanted zs) := (foldl_ins zs [] .nil).1
theorem wanted_mem (zs : List Pr) (y : Pr) : y ∈ wanted zs ↔ y ∈ zs := by
  rw [wanted, (foldl_ins zs [] .nil).2]
  exact ⟨fun h => h.elim (fun h => by cases h) id, .inr⟩
end Go.Proofs.YtmaigbfmbhknhaaDoor.prints
