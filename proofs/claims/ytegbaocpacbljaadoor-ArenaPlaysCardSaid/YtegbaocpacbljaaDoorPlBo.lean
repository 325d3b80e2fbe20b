/- A tree and the document's beside it, which the law itself has made: what each call makes of both. -/
import Derived.Test.YtegbaocpacbljaaDoorPlSame
import Derived.Test.YtegbaocpacbljaaDoorArGrowI
import Derived.Test.YtegbaocpacbljaaDoorRfAdd
import Derived.Test.YtegbaocpacbljaaDoorCls
namespace Go.Proofs.YtegbaocpacbljaaDoor.pair
open Go.RowKit Go.Proofs.YtegbaocpacbljaaDoor.arena Go.Proofs.YtegbaocpacbljaaDoor.errs
open Go.Proofs.YtegbaocpacbljaaDoor.arenaI (upd upd_same upd_other)

def Bo (w0 wr : World) (tb mb : Nat) (most : Int) (n : Nat) (V U : Nat → Int) (n' : Nat) (V' U' : Nat → Int) : Prop :=
  ∃ nv K vv uv, arenaI.Tr wr w0.heap.size tb most nv n V U K (kidsOf n U) ∧ rf.Rt wr w0.heap.size mb most vv uv n' V' U' ∧ (∀ k, arenaI.Foot tb nv n K k → ¬ rf.Foot mb vv uv k) ∧ Ok n U ∧ Below w0.heap.size w0 wr
variable {w0 wr : World} {tb mb : Nat} {most : Int} {n n' : Nat} {V U V' U' : Nat → Int}
/-- The box of a call of the script. -/
def Box (w : World) (ob : Nat) (cs : Array Value) : Prop := w.heap[ob]? = some (.cells cs 31 (0, 0))
theorem Box.lt {w : World} {ob : Nat} {cs : Array Value} (h : Box w ob cs) : ob < w.heap.size := (Array.getElem?_eq_some_iff.1 h).1
theorem Box.below {w w' : World} {ob : Nat} {cs : Array Value} (h : Box w ob cs) (hb : Below w.heap.size w w') : Box w' ob cs := (hb.block ob h.lt).trans h
theorem Box.get {w : World} {ob : Nat} {up v : Int} {s : Bool} (h : Box w ob #[.int .i64 up, .int .i64 v, .bool s]) : w.cell? ⟨ob, 0, none⟩ = some (.int .i64 up) ∧ w.cell? ⟨ob, 1, none⟩ = some (.int .i64 v) ∧ w.cell? ⟨ob, 2, none⟩ = some (.bool s) := by
  have h' : w.heap[ob]? = some (.cells #[.int .i64 up, .int .i64 v, .bool s] 31 (0, 0)) := h
  exact ⟨by simp [World.cell?, h'], by simp [World.cell?, h'], by simp [World.cell?, h']⟩
theorem row_box {w : World} {B ob k n : Nat} {e : TypeId} {cs : Array Value} {v : Value} {xs : List Value} (he : e ≠ 31) (hr : w.ownsRow B e k v n xs) (h : w.heap[ob]? = some (.cells cs 31 (0, 0))) : v.ownBlock ≠ some ob := fun hv => by
  rcases hr.2 with ⟨rfl, -⟩ | ⟨g', cap, cur, rfl, h1, h2, rest⟩
  · simp [Value.ownBlock] at hv
  · obtain rfl : g' = ob := by simpa [Value.ownBlock] using hv
    rw [h] at h2
    simp at h2
    exact he h2.2.symm
theorem t_box {w : World} {B tb ob : Nat} {most : Int} {nv : Value} {n : Nat} {V U : Nat → Int} {K : Nat → Value} {C : Nat → List Nat} {cs : Array Value} (t : arenaI.Tr w B tb most nv n V U K C) (h : w.heap[ob]? = some (.cells cs 31 (0, 0))) : ¬ arenaI.Foot tb nv n K ob := by
  rintro (rfl | hk | ⟨i, hi, hk⟩)
  · rw [t.head] at h; simp at h
  · exact row_box (by decide) t.own h hk
  · exact row_box (by decide) (t.kid i hi) h hk
theorem r_box {w : World} {B mb ob : Nat} {most : Int} {vv uv : Value} {n : Nat} {V U : Nat → Int} {cs : Array Value} (r : rf.Rt w B mb most vv uv n V U) (h : w.heap[ob]? = some (.cells cs 31 (0, 0))) : ¬ rf.Foot mb vv uv ob := by
  rintro (rfl | hk | hk)
  · rw [r.head] at h; simp at h
  · exact row_box (by decide) r.vrow h hk
  · exact row_box (by decide) r.urow h hk
theorem Bo.below {w : World} (h : Bo w0 wr tb mb most n V U n' V' U') (hb : Below wr.heap.size wr w) : Bo w0 w tb mb most n V U n' V' U' := by
  obtain ⟨nv, K, vv, uv, t, r, d, o, b⟩ := h
  exact ⟨nv, K, vv, uv, t.below hb, r.below hb, d, o, b.trans (hb.mono b.size)⟩
theorem Bo.frame (h : Bo w0 wr tb mb most n V U n' V' U') : Below w0.heap.size w0 wr := by
  obtain ⟨nv, K, vv, uv, t, r, d, o, b⟩ := h
  exact b
theorem Bo.has_yes (h : Bo w0 wr tb mb most n V U n' V' U') (i : Nat) (hi : i < n') : Calls Tryd.prog 7 #[.pointer (some ⟨mb, 0, none⟩), .int .i64 (i : Int)] wr fun e w' => e = .returned (.bool true) ∧ wr = w' := by
  obtain ⟨nv, K, vv, uv, t, r, d, o, b⟩ := h
  exact rf.has_yes r i hi
theorem Bo.has_no (h : Bo w0 wr tb mb most n V U n' V' U') (x : Int) (hx : x < 0 ∨ (n' : Int) ≤ x) : Calls Tryd.prog 7 #[.pointer (some ⟨mb, 0, none⟩), .int .i64 x] wr fun e w' => e = .returned (.bool false) ∧ wr = w' := by
  obtain ⟨nv, K, vv, uv, t, r, d, o, b⟩ := h
  exact rf.has_no r x hx
theorem Bo.len (h : Bo w0 wr tb mb most n V U n' V' U') : Calls Tryd.prog 12 #[.pointer (some ⟨tb, 0, none⟩)] wr fun e w' => e = .returned (.int .i64 n) ∧ wr = w' := by
  obtain ⟨nv, K, vv, uv, t, r, d, o, b⟩ := h
  exact arenaI.len_any t
/-- The document's row of values. -/
theorem Bo.vals (h : Bo w0 wr tb mb most n V U n' V' U') : ∃ a c, wr.cell? ⟨mb, 0, none⟩ = some (.slice a n' c) := by
  obtain ⟨nv, K, vv, uv, t, r, d, o, b⟩ := h
  obtain ⟨a, c, rfl, -, -⟩ := form_of r.vrow
  exact ⟨a, c, r.c0⟩
theorem Bo.same (h : Bo w0 wr tb mb most n V U n V U) (hn : n ≤ 1000) (x : Int) : Calls Tryd.prog 13 #[.pointer (some ⟨tb, 0, none⟩), .pointer (some ⟨mb, 0, none⟩), .int .i64 x] wr fun e w' => e = .returned (.bool true) ∧ Below wr.heap.size wr w' := by
  obtain ⟨nv, K, vv, uv, t, r, d, o, b⟩ := h
  by_cases hx : 0 ≤ x ∧ x < (n : Int)
  · obtain ⟨i, rfl⟩ : ∃ i : Nat, x = (i : Int) := ⟨x.toNat, by omega⟩
    exact same_yes t r o hn i (by omega)
  · exact same_no t r hn x (by omega)
theorem Bo.set (h : Bo w0 wr tb mb most n V U n' V' U') (i : Nat) (hi : i < n) (x : Int) : Calls Tryd.prog 6 #[.pointer (some ⟨tb, 0, none⟩), .int .i64 (i : Int), .int .i64 x] wr fun e w' => e = .returned .nilIface ∧ Aside (Bo w0 w' tb mb most n (upd V i x) U n' V' U' ∧ ∀ ob cs, Box wr ob cs → Box w' ob cs) ∧ wr.heap.size ≤ w'.heap.size := by
  obtain ⟨nv, K, vv, uv, t, r, d, o, b⟩ := h
  refine (arenaI.set_yes t i hi x).mono fun e w' ⟨e1, t2, m⟩ => ⟨e1, ⟨⟨nv, K, vv, uv, t2, r.mv m (fun k hk hf => d k hf hk), d, o, b.trans (t.goes b.size m)⟩, fun ob cs hc => (m.block ob hc.lt (t_box t hc)).trans hc⟩, m.size⟩
theorem Bo.setNo (h : Bo w0 wr tb mb most n V U n' V' U') (i : Int) (hx : i < 0 ∨ (n : Int) ≤ i) (x : Int) : Calls Tryd.prog 6 #[.pointer (some ⟨tb, 0, none⟩), .int .i64 i, .int .i64 x] wr fun e w' => ∃ b, e = .returned (.iface 56 (.pointer (some ⟨b, 0, none⟩))) ∧ Aside (FaultAt w' (.iface 56 (.pointer (some ⟨b, 0, none⟩))) 30 i .nilIface ∧ Below wr.heap.size wr w') := by
  obtain ⟨nv, K, vv, uv, t, r, d, o, b⟩ := h
  exact arenaI.set_no t i hx x
/-- A value is stored into the document's row. -/
theorem Bo.put (h : Bo w0 wr tb mb most n V U n' V' U') (i : Nat) (hi : i < n') (x : Int) : ∃ g c v, wr.cell? ⟨mb, 0, none⟩ = some (.slice (some ⟨g, 0, none⟩) n' c) ∧ wr.cell? ⟨g, i, none⟩ = some (.int .i64 v) ∧ wr.frozen? ⟨g, i, none⟩ = false ∧ w0.heap.size ≤ g ∧ Bo w0 (wr.setCell ⟨g, i, none⟩ (.int .i64 x)) tb mb most n V U n' (upd V' i x) U' ∧ ∀ ob cs, Box wr ob cs → Box (wr.setCell ⟨g, i, none⟩ (.int .i64 x)) ob cs := by
  obtain ⟨nv, K, vv, uv, t, r, d, o, b⟩ := h
  obtain ⟨g, c, rfl, h1, h2⟩ := rf.row_get r.vrow hi
  have hg := (r.vrow.lt g rfl).1
  have hne : g ≠ mb := fun e => r.vne (by rw [e]; rfl)
  have blk : ∀ k, k ≠ g → (wr.setCell ⟨g, i, none⟩ (.int .i64 x)).heap[k]? = wr.heap[k]? := fun k hk => Below.heap_setCell wr _ _ k (by simpa using hk)
  refine ⟨g, c, _, r.c0, h1, h2, hg, ⟨nv, K, _, uv, t.mv (Mv.of_set wr ⟨g, i, none⟩ _ (F := fun k => k = g) (.inl rfl)) (fun k hk e => d k hk (by rw [e]; exact .inr (.inl rfl))), ⟨r.base, (blk mb (Ne.symm hne)).trans r.head, ?_, own_of_block r.urow fun k hk => blk k (fun e => r.apart g rfl (by rw [← e]; exact hk)), r.apart⟩, d, o, b.setCell (p := ⟨g, i, none⟩) hg _⟩, fun ob cs hc => (blk ob (fun e => r_box r hc (by rw [e]; exact .inr (.inl rfl)))).trans hc⟩
  have := (r.vrow.stored i (.int .i64 x)).1
  have e : (rf.ints n' V').set i (.int .i64 x) = rf.ints n' (upd V' i x) := by
    apply List.ext_getElem?
    intro k
    by_cases hk : k < n'
    · rw [List.getElem?_set, rf.ints_at _ hk, rf.ints_at _ hk]
      by_cases e : i = k
      · subst e; rw [if_pos rfl, if_pos (by rw [rf.ints_length]; omega), upd_same]
      · rw [if_neg e, upd_other _ _ (Ne.symm e)]
    · rw [List.getElem?_eq_none (by rw [List.length_set, rf.ints_length]; omega), List.getElem?_eq_none (by rw [rf.ints_length]; omega)]
  rwa [e] at this
theorem Bo.add (h : Bo w0 wr tb mb most n V U n' V' U') (up x : Int) (hr : (∃ u : Nat, up = (u : Int) ∧ u < n) ∨ n = 0 ∧ up = -1) (hm : (n : Int) < most) (hn : n ≤ 1000) :
    Calls Tryd.prog 10 #[.pointer (some ⟨tb, 0, none⟩), .int .i64 up, .int .i64 x] wr fun e w' => e = .returned (.tuple #[.int .i64 n, .nilIface]) ∧ Aside (Bo w0 w' tb mb most (n + 1) (upd V n x) (upd U n up) n' V' U' ∧ ∀ ob cs, Box wr ob cs → Box w' ob cs) ∧ wr.heap.size ≤ w'.heap.size := by
  obtain ⟨nv, K, vv, uv, t, r, d, o, b⟩ := h
  rcases hr with ⟨u, rfl, hu⟩ | ⟨rfl, rfl⟩
  · refine (arenaI.grow_kid x u t o b.size hu hm (by omega)).mono fun e w' ⟨nv', K', e1, t2, m, f⟩ => ⟨e1, ⟨⟨nv', K', vv, uv, t2, r.mv m (fun k hk hf => d k hf hk), fun k hk hf => (f k hk).elim (fun h1 => d k h1 hf) (fun h1 => by have := (r.foot_lt hf).2; omega), arenaI.ok_kid o hu, b.trans (t.goes b.size m)⟩, fun ob cs hc => (m.block ob hc.lt (t_box t hc)).trans hc⟩, m.size⟩
  · refine (arenaI.grow_root x t b.size hm).mono fun e w' ⟨nv', K', e1, t2, m, f⟩ => ⟨e1, ⟨⟨nv', K', vv, uv, t2, r.mv m (fun k hk hf => d k hf hk), fun k hk hf => (f k hk).elim (fun h1 => d k h1 hf) (fun h1 => by have := (r.foot_lt hf).2; omega), arenaI.ok_root _, b.trans (t.goes b.size m)⟩, fun ob cs hc => (m.block ob hc.lt (t_box t hc)).trans hc⟩, m.size⟩
theorem Bo.addNo (h : Bo w0 wr tb mb most n V U n' V' U') (up x : Int) (hx : up < 0 ∨ (n : Int) ≤ up) (hr : 0 < n ∨ up ≠ -1) : Calls Tryd.prog 10 #[.pointer (some ⟨tb, 0, none⟩), .int .i64 up, .int .i64 x] wr fun e w' => ∃ b, e = .returned (.tuple #[.int .i64 0, .iface 56 (.pointer (some ⟨b, 0, none⟩))]) ∧ Aside (FaultAt w' (.iface 56 (.pointer (some ⟨b, 0, none⟩))) 30 up .nilIface ∧ Below wr.heap.size wr w') := by
  obtain ⟨nv, K, vv, uv, t, r, d, o, b⟩ := h
  exact arenaI.add_name t up x hx hr
theorem Bo.addMany (h : Bo w0 wr tb mb most n V U n' V' U') (up x : Int) (hr : (∃ u : Nat, up = (u : Int) ∧ u < n) ∨ n = 0 ∧ up = -1) (hm : most ≤ (n : Int)) : Calls Tryd.prog 10 #[.pointer (some ⟨tb, 0, none⟩), .int .i64 up, .int .i64 x] wr fun e w' => ∃ b, e = .returned (.tuple #[.int .i64 0, .iface 56 (.pointer (some ⟨b, 0, none⟩))]) ∧ Aside (FaultAt w' (.iface 56 (.pointer (some ⟨b, 0, none⟩))) 15 up .nilIface ∧ Below wr.heap.size wr w') := by
  obtain ⟨nv, K, vv, uv, t, r, d, o, b⟩ := h
  exact arenaI.add_many t up x hr hm
theorem Bo.radd (h : Bo w0 wr tb mb most n V U n' V' U') (up x : Int) (hr : (∃ u : Nat, up = (u : Int) ∧ u < n') ∨ n' = 0 ∧ up = -1) (hm : (n' : Int) < most) (hn : n' ≤ 1000) :
    Calls Tryd.prog 11 #[.pointer (some ⟨mb, 0, none⟩), .int .i64 up, .int .i64 x] wr fun e w' => e = .returned (.tuple #[.int .i64 n', .int .i64 0]) ∧ Aside (Bo w0 w' tb mb most n V U (n' + 1) (upd V' n' x) (upd U' n' up) ∧ ∀ ob cs, Box wr ob cs → Box w' ob cs) ∧ wr.heap.size ≤ w'.heap.size := by
  obtain ⟨nv, K, vv, uv, t, r, d, o, b⟩ := h
  refine (rf.add_ok r b.size up x hr hm (by omega)).mono fun e w' ⟨vv', uv', e1, r2, m, f⟩ => ?_
  have hb : Below w0.heap.size wr w' := m.below (fun k hk => (r.foot_lt hk).1) b.size
  exact ⟨e1, ⟨⟨nv, K, vv', uv', t.mv m (fun k hk hf => d k hk hf), r2, fun k hk hf => (f k hf).elim (fun h1 => d k hk h1) (fun h1 => by have := (t.foot_lt hk).2; omega), o, b.trans hb⟩, fun ob cs hc => (m.block ob hc.lt (r_box r hc)).trans hc⟩, m.size⟩
theorem Bo.raddNo (h : Bo w0 wr tb mb most n V U n' V' U') (up x : Int) (hx : up < 0 ∨ (n' : Int) ≤ up) (hr : 0 < n' ∨ up ≠ -1) : Calls Tryd.prog 11 #[.pointer (some ⟨mb, 0, none⟩), .int .i64 up, .int .i64 x] wr fun e w' => e = .returned (.tuple #[.int .i64 0, .int .i64 30]) ∧ wr = w' := by
  obtain ⟨nv, K, vv, uv, t, r, d, o, b⟩ := h
  exact rf.add_name r up x hx hr
theorem Bo.raddMany (h : Bo w0 wr tb mb most n V U n' V' U') (up x : Int) (hr : (∃ u : Nat, up = (u : Int) ∧ u < n') ∨ n' = 0 ∧ up = -1) (hm : most ≤ (n' : Int)) : Calls Tryd.prog 11 #[.pointer (some ⟨mb, 0, none⟩), .int .i64 up, .int .i64 x] wr fun e w' => e = .returned (.tuple #[.int .i64 0, .int .i64 15]) ∧ Below wr.heap.size wr w' := by
  obtain ⟨nv, K, vv, uv, t, r, d, o, b⟩ := h
  exact rf.add_many r up x hr hm
theorem bo_new (w0 : World) (most : Int) : Bo w0 ((w0.alloc (.cells #[.int .i64 most, .slice none 0 0] 51)).alloc (.cells #[.slice none 0 0, .slice none 0 0, .int .i64 most] 29)) w0.heap.size (w0.heap.size + 1) most 0 (fun _ => 0) (fun _ => 0) 0 (fun _ => 0) (fun _ => 0) := by
  refine ⟨_, fun _ => .slice none 0 0, .slice none 0 0, .slice none 0 0, (arenaI.tr_new w0 most (fun _ => 0) (fun _ => 0) (fun _ => .slice none 0 0) (kidsOf 0 (fun _ => 0))).below ((Below.refl _ _).alloc (Nat.le_refl _) _), ⟨by omega, ?_, World.ownsRow_nil _ _ _ _, World.ownsRow_nil _ _ _ _, fun g h => by simp [Value.ownBlock] at h⟩, ?_, ⟨fun h => by omega, fun i h0 h1 => by omega⟩, ((Below.refl _ w0).alloc (Nat.le_refl _) _).alloc (by simp) _⟩
  · have := heap_alloc_new (w0.alloc (.cells #[.int .i64 most, .slice none 0 0] 51)) (.cells #[.slice none 0 0, .slice none 0 0, .int .i64 most] 29)
    rwa [World.size_alloc] at this
  · rintro k (rfl | hk | ⟨i, hi, -⟩) (hf | hf | hf)
    · omega
    · simp [Value.ownBlock] at hf
    · simp [Value.ownBlock] at hf
    · simp [Value.ownBlock] at hk
    · simp [Value.ownBlock] at hk
    · simp [Value.ownBlock] at hk
    · omega
    · omega
    · omega
end Go.Proofs.YtegbaocpacbljaaDoor.pair
