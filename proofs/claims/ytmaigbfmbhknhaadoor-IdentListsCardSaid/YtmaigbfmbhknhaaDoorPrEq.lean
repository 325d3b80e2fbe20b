/- Fingerprints held against each other: the model's '==' and '!=' at the array, and Go's comparison of bytes. -/
import Derived.Test.YtmaigbfmbhknhaaDoorPrMath
import Derived.Test.YtmaigbfmbhknhaaDoorFails
import Derived.ChangeKeysEq
import Derived.Shelf.SlicesE.Equal
import Derived.Lib.BytesEntry
import Derived.Deep.QuietTactic
import Derived.BigQuiet
namespace Go.Proofs.YtmaigbfmbhknhaaDoor.prints
open Go.RowKit Go.Proofs.YtmaigbfmbhknhaaDoor.errs Go.Extern

theorem run_part (i : Nat) (p : Pr) (w : World) (h : i < 32) : (part 5 (enc p).toArray (i * Tryd.prog.cellsOf 5)).run Tryd.prog w = .ok (.int .u8 ((p.1.getD i 0).toNat)) w := by
  have hc : Tryd.prog.cellsOf 5 = 1 := by kernel_rfl
  have hp := p.2
  have hg : (enc p)[i]? = some (.int .u8 ((p.1.getD i 0).toNat)) := by
    unfold enc
    rw [List.getElem?_map, List.getElem?_eq_getElem (by omega), List.getD_eq_getElem?_getD, List.getElem?_eq_getElem (by omega)]
    rfl
  rw [hc, Nat.mul_one]
  simp [part, isAgg, underlying, Tryd.underlying5, Result.andThen, hg]

theorem run_items (d : Nat) (p q : Pr) (w : World) : ∀ (n i : Nat), i + n = 32 → (∀ j, j < i → p.1.getD j 0 = q.1.getD j 0) →
    (Op.eqItems (d + 1) 5 (Tryd.prog.cellsOf 5) (enc p).toArray (enc q).toArray (List.range' i n)).run Tryd.prog w = .ok (decide (p = q)) w
  | 0, i, h, ha => by
    have e : p = q := by
      apply Subtype.ext
      apply List.ext_getElem (by rw [p.2, q.2])
      intro j h1 h2
      have hp := p.2
      have := ha j (by omega)
      rwa [List.getD_eq_getElem?_getD, List.getD_eq_getElem?_getD, List.getElem?_eq_getElem h1, List.getElem?_eq_getElem h2] at this
    simp [Op.eqItems, e]
  | n + 1, i, h, ha => by
    have hu : ∀ a b : Int, (Op.equalIn (d + 1) 5 (.int .u8 a) (.int .u8 b)).run Tryd.prog w = .ok (a == b) w := fun a b => by
      simp [Op.equalIn, underlying, Tryd.underlying5, Result.andThen]
    rw [List.range'_succ]
    simp only [Op.eqItems, Sem.run_bind, run_part i p w (by omega), run_part i q w (by omega), Result.andThen_ok, hu]
    by_cases e : p.1.getD i 0 = q.1.getD i 0
    · have := run_items d p q w n (i + 1) (by omega) (fun j hj => by
        rcases (show j < i ∨ j = i by omega) with hj | rfl
        · exact ha j hj
        · exact e)
      rw [e]
      simpa using this
    · have hne : p ≠ q := fun h => e (by rw [h])
      have hb : ((((p.1.getD i 0).toNat : Nat) : Int) == (((q.1.getD i 0).toNat : Nat) : Int)) = false := beq_eq_false_iff_ne.2 fun h => e (UInt8.toNat_inj.1 (by omega))
      rw [hb]
      simp [hne]

theorem same24 (p q : Pr) (w : World) : (Op.equalIn 10000 24 (.agg (enc p).toArray) (.agg (enc q).toArray)).run Tryd.prog w = .ok (decide (p = q)) w := by
  have hu : Tryd.prog.underlying 24 = some (.array 32 5) := by kernel_rfl
  obtain ⟨i, hi⟩ := info_of_underlying Tryd.underlying5
  rw [show (10000 : Nat) = 9998 + 1 + 1 from rfl, run_equalIn_array w (9998 + 1) _ _ hu hi, List.range_eq_range', run_items 9998 p q w 32 0 (by omega) (fun j hj => absurd hj (Nat.not_lt_zero _))]
theorem eql24 (p q : Pr) (w : World) : (binOp .eql 24 (.agg (enc p).toArray) (.agg (enc q).toArray)).run Tryd.prog w = .ok (.bool (decide (p = q))) w := by
  rw [run_eql_struct, same24]
  rfl
theorem neq24 (p q : Pr) (w : World) : (binOp .neq 24 (.agg (enc p).toArray) (.agg (enc q).toArray)).run Tryd.prog w = .ok (.bool (!decide (p = q))) w := by
  rw [run_neq_struct, same24]
  rfl
theorem guard24 : GuardAt Tryd.prog 24 (fun x : Pr => .agg (enc x).toArray) := GuardAt.agg _ (by kernel_rfl)
theorem eqlAt : EqlAt Tryd.prog 24 (fun x : Pr => .agg (enc x).toArray) (fun x y => decide (x = y)) := ⟨eql24, guard24⟩

/-- A fingerprint's bytes stand from a place on. -/
def At32 (w : World) (b off : Nat) (p : Pr) : Prop := ∀ i v, (enc p)[i]? = some v → w.cell? ⟨b, off + i, none⟩ = some v
theorem At32.cell {w : World} {b off : Nat} {p : Pr} (h : At32 w b off p) {i : Nat} (hi : i < 32) : w.cell? ⟨b, off + i, none⟩ = some (.int .u8 ((p.1.getD i 0).toNat)) := by
  refine h i _ ?_
  have hp := p.2
  unfold enc
  rw [List.getElem?_map, List.getElem?_eq_getElem (by omega), List.getD_eq_getElem?_getD, List.getElem?_eq_getElem (by omega)]
  rfl
theorem At32.below {w w' : World} {b off B : Nat} {p : Pr} (h : At32 w b off p) (hb : Below B w w') (hB : w.heap.size ≤ B) : At32 w' b off p := fun i v hi => by
  have hc := h i v hi
  exact (hb.cell (p := ⟨b, off + i, none⟩) (Nat.lt_of_lt_of_le (lt_of_cell hc) hB)).trans hc
theorem at32_new (w : World) (p : Pr) (T : TypeId) : At32 (w.alloc (.cells (enc p).toArray T)) w.heap.size 0 p := fun i v hi => by
  have := World.cell?_alloc_mark w (enc p).toArray T (0, 0) i
  rw [Nat.zero_add, this]; simpa using hi

theorem run_bytes {w : World} {b off cap : Nat} {p : Pr} (h : At32 w b off p) : (Bytes.bytesOf (.slice (some ⟨b, off, none⟩) 32 cap)).run Tryd.prog w = .ok ⟨p.1.toArray⟩ w := by
  have hp := p.2
  have := Lib.run_loadBytesX (P := Tryd.prog) w (p.1.map fun c => (c.toNat : Int)) ⟨b, off, none⟩ .empty (fun j x hj => by
    rw [show (Addr.add ⟨b, off, none⟩ j : Addr) = ⟨b, off + j, none⟩ by simp [Addr.add]]
    refine h j _ ?_
    unfold enc
    rw [List.getElem?_map] at hj ⊢
    cases hg : p.1[j]? with
    | none => rw [hg] at hj; cases hj
    | some c => rw [hg] at hj; cases hj; rfl)
  rw [List.length_map, p.2] at this
  have e : Lib.bytesOf (p.1.map fun c => (c.toNat : Int)) = p.1 := by
    unfold Lib.bytesOf
    rw [List.map_map]
    conv => rhs; rw [← List.map_id p.1]
    exact List.map_congr_left fun c _ => by simp
  rw [e] at this
  show (Bytes.loadBytes ⟨b, off, none⟩ 32 ByteArray.empty).run Tryd.prog w = _
  rw [this]
  congr 2
  simp

theorem byte_get (l : List UInt8) (i : Nat) : (⟨l.toArray⟩ : ByteArray)[i]! = l.getD i 0 := by
  by_cases h : i < l.length
  · rw [getElem!_pos _ i (by show i < l.toArray.size; simpa using h), List.getD_eq_getElem?_getD, List.getElem?_eq_getElem h]
    rfl
  · rw [getElem!_neg _ i (by show ¬ i < l.toArray.size; simpa using h), List.getD_eq_getElem?_getD, List.getElem?_eq_none (by omega)]
    rfl
def lead (l m : List UInt8) : Int :=
  match (List.range l.length).find? fun i => l.getD i 0 != m.getD i 0 with
  | some i => if l.getD i 0 < m.getD i 0 then -1 else 1
  | none => 0
theorem lead_cf : ∀ l m : List UInt8, l.length = m.length → lead l m = if l = m then 0 else if Op.bytesLess l m then -1 else 1
  | [], [], _ => rfl
  | [], _ :: _, h => by cases h
  | _ :: _, [], h => by cases h
  | a :: l, b :: m, h => by
    have ih := lead_cf l m (by simpa using h)
    unfold lead at ih ⊢
    rw [List.length_cons, List.range_succ_eq_map, List.find?_cons]
    by_cases e : a = b
    · subst e
      have h0 : ((a :: l).getD 0 0 != (a :: m).getD 0 0) = false := by simp
      rw [h0]
      simp only [List.find?_map, Function.comp_def]
      have e1 : ∀ i : Nat, (a :: l).getD (i + 1) 0 = l.getD i 0 := fun i => by simp [List.getD_eq_getElem?_getD]
      have e2 : ∀ i : Nat, (a :: m).getD (i + 1) 0 = m.getD i 0 := fun i => by simp [List.getD_eq_getElem?_getD]
      simp only [Nat.succ_eq_add_one, e1, e2]
      have hb : Op.bytesLess (a :: l) (a :: m) = Op.bytesLess l m := by simp [Op.bytesLess, UInt8.lt_irrefl]
      simp only [hb, List.cons.injEq, true_and]
      rw [← ih]
      cases (List.range l.length).find? fun i => l.getD i 0 != m.getD i 0 with
      | none => rfl
      | some i => simp only [Option.map_some, e1, e2]
    · have h0 : ((a :: l).getD 0 0 != (b :: m).getD 0 0) = true := by simpa using e
      rw [h0]
      have hb : Op.bytesLess (a :: l) (b :: m) = decide (a < b) := by simp [Op.bytesLess, e]
      by_cases hl : a < b <;> simp [hl, hb, e]
theorem cmp_cf (p q : Pr) : BytealgCompare.cmp ⟨p.1.toArray⟩ ⟨q.1.toArray⟩ = cf p q := by
  have hs : ∀ r : Pr, (⟨r.1.toArray⟩ : ByteArray).size = 32 := fun r => by show r.1.toArray.size = 32; simpa using r.2
  unfold BytealgCompare.cmp
  simp only [byte_get, hs]
  have := lead_cf p.1 q.1 (by rw [p.2, q.2])
  unfold lead at this
  rw [p.2] at this
  simp only [Nat.lt_irrefl, gt_iff_lt, if_false]
  rw [show min 32 32 = 32 from rfl]
  refine this.trans ?_
  unfold cf lt
  have e : (p.1 = q.1) = (p = q) := propext ⟨fun h => Subtype.ext h, fun h => by rw [h]⟩
  simp only [e]
theorem run_compare {w : World} {b off cap b' off' cap' : Nat} {p q : Pr} (h : At32 w b off p) (h' : At32 w b' off' q) :
    (BytealgCompare.compare #[.slice (some ⟨b, off, none⟩) 32 cap, .slice (some ⟨b', off', none⟩) 32 cap']).run Tryd.prog w = .ok (.int .i64 (cf p q)) w := by
  show (do pure (goInt (BytealgCompare.cmp (← Bytes.bytesOf (.slice (some ⟨b, off, none⟩) 32 cap)) (← Bytes.bytesOf (.slice (some ⟨b', off', none⟩) 32 cap')))) : Sem Value).run Tryd.prog w = _
  simp only [Sem.run_bind, run_bytes h, run_bytes h', Result.andThen_ok, cmp_cf]
  rfl
end Go.Proofs.YtmaigbfmbhknhaaDoor.prints
