/- Rows of requests: what a block of them holds, and what an append within its room and a clearing leave. -/
import Derived.Test.YtelofhplpeeplaaDoorWrBlk
import Derived.Laws.CopyRow
set_option linter.unusedSimpArgs false
set_option linter.unusedVariables false
namespace Go.Proofs.YtelofhplpeeplaaDoor.wire
open Go.RowKit Go.Proofs.YtelofhplpeeplaaDoor.errs

/-- A request that waits. -/
structure Rq where
  id : Nat
  app : ByteArray
  apple : Bool
  kind : Int
  text : ByteArray
  url : ByteArray
  since : Nat
def noRq : Rq := ⟨0, ⟨#[]⟩, false, 0, ⟨#[]⟩, ⟨#[]⟩, 0⟩
def at_ (L : List Rq) (j : Nat) : Rq := L.getD j noRq
theorem at_get {L : List Rq} {j : Nat} (h : j < L.length) : at_ L j = L[j] := by
  unfold at_
  rw [List.getD_eq_getElem?_getD, List.getElem?_eq_getElem h]; rfl
/-- Its cells, as a request alone, and as one that waits. -/
def enc6 (p : Rq) : List Value := [.int .u64 (p.id : Int), .string p.app, .bool p.apple, .int .i64 p.kind, .string p.text, .string p.url]
def enc7 (p : Rq) : List Value := [.int .u64 (p.id : Int), .string p.app, .bool p.apple, .int .i64 p.kind, .string p.text, .string p.url, .int .u64 (p.since : Int)]
abbrev arr6 (p : Rq) : Array Value := #[.int .u64 (p.id : Int), .string p.app, .bool p.apple, .int .i64 p.kind, .string p.text, .string p.url]
abbrev arr7 (p : Rq) : Array Value := #[.int .u64 (p.id : Int), .string p.app, .bool p.apple, .int .i64 p.kind, .string p.text, .string p.url, .int .u64 (p.since : Int)]
theorem len6 (p : Rq) : (enc6 p).length = 6 := rfl
theorem len7 (p : Rq) : (enc7 p).length = 7 := rfl

def flatE (enc : Rq → List Value) (L : List Rq) : List Value := L.flatMap enc
section
variable {enc : Rq → List Value} {k : Nat} (hk : ∀ x, (enc x).length = k)
theorem flatE_append (a b : List Rq) : flatE enc (a ++ b) = flatE enc a ++ flatE enc b := List.flatMap_append
theorem flatE_one (x : Rq) : flatE enc [x] = enc x := by simp [flatE]
include hk
theorem flatE_len : ∀ L : List Rq, (flatE enc L).length = L.length * k
  | [] => by simp [flatE]
  | x :: L => by
    have := flatE_len L
    unfold flatE at this ⊢
    rw [List.flatMap_cons, List.length_append, hk, this, List.length_cons, Nat.succ_mul, Nat.add_comm]
theorem flatE_take : ∀ (L : List Rq) (j : Nat), (flatE enc L).take (j * k) = flatE enc (L.take j)
  | [], j => by simp [flatE]
  | x :: L, 0 => by simp [flatE]
  | x :: L, j + 1 => by
    have := flatE_take L j
    unfold flatE at this ⊢
    rw [List.take_succ_cons, List.flatMap_cons, List.flatMap_cons, ← this, Nat.succ_mul, Nat.add_comm, ← hk x, List.take_length_add_append]
theorem flatE_drop : ∀ (L : List Rq) (j : Nat), (flatE enc L).drop (j * k) = flatE enc (L.drop j)
  | [], j => by simp [flatE]
  | x :: L, 0 => by simp [flatE]
  | x :: L, j + 1 => by
    have := flatE_drop L j
    unfold flatE at this ⊢
    rw [List.drop_succ_cons, List.flatMap_cons, ← this, Nat.succ_mul, Nat.add_comm, ← hk x, List.drop_length_add_append]
theorem flatE_at (L : List Rq) (j i : Nat) (hj : j < L.length) (hi : i < k) : (flatE enc L)[j * k + i]? = (enc (at_ L j))[i]? := by
  have h := flatE_drop hk L j
  have e : (flatE enc L)[j * k + i]? = ((flatE enc L).drop (j * k))[i]? := by rw [List.getElem?_drop]
  rw [e, h, List.drop_eq_getElem_cons hj, at_get hj]
  unfold flatE
  rw [List.flatMap_cons, List.getElem?_append_left (by rw [hk]; exact hi)]
theorem flatE_put (L : List Rq) (j : Nat) (hj : j < L.length) (x : Rq) : (flatE enc L).take (j * k) ++ enc x ++ (flatE enc L).drop (j * k + k) = flatE enc (L.set j x) := by
  rw [flatE_take hk, show j * k + k = (j + 1) * k by rw [Nat.succ_mul], flatE_drop hk, List.set_eq_take_append_cons_drop, if_pos hj, flatE_append]
  unfold flatE
  rw [List.flatMap_cons, List.append_assoc]
end
theorem cells6 (L : List Rq) : ∀ u ∈ flatE enc6 L, u.oneCell' = true := by
  intro u hu
  obtain ⟨p, -, hp⟩ := List.mem_flatMap.1 hu
  simp [enc6] at hp
  rcases hp with rfl | rfl | rfl | rfl | rfl | rfl <;> rfl
theorem cells7 (L : List Rq) : ∀ u ∈ flatE enc7 L, u.oneCell' = true := by
  intro u hu
  obtain ⟨p, -, hp⟩ := List.mem_flatMap.1 hu
  simp [enc7] at hp
  rcases hp with rfl | rfl | rfl | rfl | rfl | rfl | rfl <;> rfl
theorem info7 : (Tryd.prog.info? 77).map (fun i => (i.zero, i.size, i.bytes)) = some (some (.agg #[.int .u64 0, .string ⟨#[]⟩, .bool false, .int .i64 0, .string ⟨#[]⟩, .string ⟨#[]⟩, .int .u64 0]), 7, 80) := by kernel_rfl
theorem info6 : (Tryd.prog.info? 45).map (fun i => (i.zero, i.size, i.bytes)) = some (some (.agg #[.int .u64 0, .string ⟨#[]⟩, .bool false, .int .i64 0, .string ⟨#[]⟩, .string ⟨#[]⟩]), 6, 72) := by kernel_rfl

/-- A block that holds requests that wait, from its beginning on. -/
def RowAt (w : World) (g cap : Nat) (D : List Rq) : Prop :=
  ∃ cur, Blk w g cur 77 ∧ D.length ≤ cap ∧ cap ≤ maxLen ∧ cur.size = cap * 7 ∧ cur.toList.take (D.length * 7) = flatE enc7 D
theorem RowAt.lt {w : World} {g cap : Nat} {D : List Rq} (h : RowAt w g cap D) : g < w.heap.size := by
  obtain ⟨cur, h, -⟩ := h
  exact h.lt
theorem RowAt.room {w : World} {g cap : Nat} {D : List Rq} (h : RowAt w g cap D) : D.length ≤ cap ∧ cap ≤ maxLen := by
  obtain ⟨cur, -, h1, h2, -⟩ := h
  exact ⟨h1, h2⟩
theorem RowAt.keep {w w' : World} {g cap : Nat} {D : List Rq} (h : RowAt w g cap D) (hb : w'.heap[g]? = w.heap[g]?) : RowAt w' g cap D := by
  obtain ⟨cur, h0, h⟩ := h
  exact ⟨cur, hb.trans h0, h⟩
theorem RowAt.cell {w : World} {g cap : Nat} {D : List Rq} (h : RowAt w g cap D) {j i : Nat} (hj : j < D.length) (hi : i < 7) : w.cell? ⟨g, j * 7 + i, none⟩ = (enc7 (at_ D j))[i]? := by
  obtain ⟨cur, h0, h1, h2, h3, h4⟩ := h
  rw [h0.get, ← flatE_at len7 D j i hj hi, ← h4, List.getElem?_take, if_pos (by omega)]
  simp
theorem RowAt.own {w : World} {g cap : Nat} {D : List Rq} (h : RowAt w g cap D) {B j : Nat} (hB : B ≤ g) (hj : j ≤ D.length) : w.ownsRow B 77 7 (.slice (some ⟨g, 0, none⟩) j cap) j (flatE enc7 (D.take j)) := by
  obtain ⟨cur, h0, h1, h2, h3, h4⟩ := h
  refine ⟨by rw [flatE_len len7, List.length_take, Nat.min_eq_left hj], .inr ⟨g, cap, cur, rfl, hB, h0, by omega, h2, h3, ?_⟩⟩
  rw [← flatE_take len7, ← h4, List.take_take, Nat.min_eq_left (Nat.mul_le_mul_right _ hj)]
theorem own_rowAt {w : World} {B g n cap : Nat} {D : List Rq} (h : w.ownsRow B 77 7 (.slice (some ⟨g, 0, none⟩) n cap) D.length (flatE enc7 D)) : RowAt w g cap D ∧ B ≤ g ∧ n = D.length := by
  rcases h.2 with ⟨h', _⟩ | ⟨g', cap', cur, hv, hB, hg, hn, hm, hs, ht⟩
  · cases h'
  · cases hv
    exact ⟨⟨cur, hg, hn, hm, hs, ht⟩, hB, rfl⟩

/-- What an append within the room leaves. -/
theorem run_put {i : TypeInfo} (hi : Tryd.prog.info? 77 = some i) (hs : i.size = 7) {w : World} {g cap : Nat} {D : List Rq} (h : RowAt w g cap D) {j : Nat} (hj : j < D.length) (x : Rq) (b : Nat) (hx : ∀ k u, (enc7 x)[k]? = some u → w.cell? ((⟨b, 0, none⟩ : Addr).add k) = some u) (ty : TypeId) :
    ∃ w', (Builtin.append_ #[72, 72] ty #[.slice (some ⟨g, 0, none⟩) j cap, .slice (some ⟨b, 0, none⟩) 1 1]).run Tryd.prog w = .ok (.slice (some ⟨g, 0, none⟩) (j + 1) cap) w' ∧ RowAt w' g cap (D.set j x) ∧ w.grownBy w' (some g) := by
  obtain ⟨cur, h0, h1, h2, h3, h4⟩ := h
  have hl : (enc7 x).length = 1 * i.size := by rw [hs]; rfl
  have hr := run_append_room (P := Tryd.prog) w 72 ty 77 i Tryd.underlying72 hi g j cap cur h0 ⟨b, 0, none⟩ 1 1 (enc7 x) hl hx (fun u hu => cells7 [x] u (by rw [flatE_one]; exact hu)) (by omega) (by rw [hs, len7, h3]; omega)
  refine ⟨_, hr, ⟨_, setRow_heap w g cur _ _ _ h0, by rw [List.length_set]; exact h1, h2, ?_, ?_⟩, ⟨rfl, rfl, rfl, by simp, fun k _ hk => setRow_other w g k _ (fun e => hk (by simp [e]))⟩⟩
  · rw [hs, len7]
    simp only [List.size_toArray, List.length_append, List.length_take, List.length_drop, Array.length_toList, len7, h3]
    omega
  · rw [hs, len7, List.length_set, ← flatE_put len7 D j hj x, ← h4]
    have e1 : (cur.toList.take (D.length * 7)).take (j * 7) = cur.toList.take (j * 7) := by rw [List.take_take, Nat.min_eq_left (by omega)]
    have e2 : (cur.toList.take (D.length * 7)).drop (j * 7 + 7) = (cur.toList.drop (j * 7 + 7)).take (D.length * 7 - (j * 7 + 7)) := by rw [List.drop_take]
    rw [e1, e2]
    show (cur.toList.take (j * 7) ++ enc7 x ++ cur.toList.drop (j * 7 + 7)).take (D.length * 7) = _
    have hlen : (cur.toList.take (j * 7) ++ enc7 x).length = j * 7 + 7 := by
      rw [List.length_append, List.length_take, Array.length_toList, h3, len7]; omega
    rw [List.take_append, hlen, List.take_of_length_le (by rw [hlen]; omega)]

theorem zero7 : ∃ z : Array Value, (∀ w, (zeroValue 77).run Tryd.prog w = .ok (.agg z) w) ∧ z.size = 7 ∧ ∀ v ∈ z, v.oneCell' = true :=
  ⟨_, Tryd.zeroValue77, rfl, by decide⟩
/-- What a clearing behind the first ones leaves. -/
theorem run_wipe {w : World} {g cap : Nat} {D : List Rq} (h : RowAt w g cap D) {j m : Nat} (hm : 0 < m) (hj : j + m = D.length) (c : Nat) :
    ∃ w', (∀ ty, (Builtin.clear_ #[72] ty #[.slice (some ⟨g, j * 7, none⟩) m c]).run Tryd.prog w = .ok (.tuple #[]) w') ∧ RowAt w' g cap (D.take j) ∧ w.grownBy w' (some g) := by
  obtain ⟨cur, h0, h1, h2, h3, h4⟩ := h
  obtain ⟨z, hv, hs, h5⟩ := zero7
  have hl : (Builtin.zeroCells z m).toList.length = m * 7 := by simp [Builtin.zeroCells, hs, Nat.mul_comm]
  have h5' : ∀ v ∈ (Builtin.zeroCells z m).toList, v.oneCell' = true := by
    intro v hv
    simp only [Builtin.zeroCells, Array.toList_map, List.mem_map] at hv
    obtain ⟨i, hi, rfl⟩ := hv
    have hi2 : i % z.size < z.size := Nat.mod_lt _ (by omega)
    rw [getElem!_pos z _ hi2]
    exact h5 _ (Array.getElem_mem hi2)
  have hst := run_storeCells_at (P := Tryd.prog) g (j * 7) 77 (Builtin.zeroCells z m).toList 0 cur w h0 (by rw [hl, h3]; omega) h5'
  simp only [Nat.add_zero] at hst
  refine ⟨w.setRow g (cur.toList.take (j * 7) ++ (Builtin.zeroCells z m).toList ++ cur.toList.drop (j * 7 + (Builtin.zeroCells z m).toList.length)).toArray, fun ty => ?_, ⟨_, setRow_heap w g cur _ _ _ h0, by rw [List.length_take]; omega, h2, ?_, ?_⟩, ⟨rfl, rfl, rfl, by simp, fun k _ hk => setRow_other w g k _ (fun e => hk (by simp [e]))⟩⟩
  · obtain ⟨m', rfl⟩ : ∃ m', m = m' + 1 := ⟨m - 1, by omega⟩
    simp [Builtin.clear_, run_underlying Tryd.underlying72, hv, hst, Value.cells]
  · simp only [List.size_toArray, List.length_append, List.length_take, List.length_drop, Array.length_toList, hl, h3]
    omega
  · have hjl : (D.take j).length = j := by rw [List.length_take]; omega
    rw [hjl, ← flatE_take len7, ← h4, List.take_take, Nat.min_eq_left (by omega)]
    show (cur.toList.take (j * 7) ++ (Builtin.zeroCells z m).toList ++ _).take (j * 7) = _
    rw [List.append_assoc, List.take_append_of_le_length (by rw [List.length_take, Array.length_toList, h3]; omega), List.take_take, Nat.min_self]
theorem wipe_nil (w : World) (ty : TypeId) : (Builtin.clear_ #[72] ty #[.slice none 0 0]).run Tryd.prog w = .ok (.tuple #[]) w := by
  simp [Builtin.clear_, run_underlying Tryd.underlying72]
theorem wipe_zero (a : Addr) (c : Nat) (w : World) (ty : TypeId) : (Builtin.clear_ #[72] ty #[.slice (some a) 0 c]).run Tryd.prog w = .ok (.tuple #[]) w := by
  simp [Builtin.clear_, run_underlying Tryd.underlying72]
end Go.Proofs.YtelofhplpeeplaaDoor.wire
