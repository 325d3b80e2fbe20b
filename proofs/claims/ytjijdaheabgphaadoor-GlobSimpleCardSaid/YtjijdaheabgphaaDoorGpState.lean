/- What stands in memory while a text is gone through: parts, two rows of truths, the text's place. -/
import Derived.Test.YtjijdaheabgphaaDoorGpTakes
import Derived.Test.YtjijdaheabgphaaDoorGpRead
import Derived.Deep.Heap
set_option linter.unusedSimpArgs false
set_option linter.unusedVariables false
namespace Go.Proofs.YtjijdaheabgphaaDoor.gparts
open Go.RowKit Go.Proofs.YtjijdaheabgphaaDoor.errs Go.Proofs.YtjijdaheabgphaaDoor.rows Go.Proofs.YtjijdaheabgphaaDoor.utf Go.Proofs.YtjijdaheabgphaaDoor.chars

/-- Two rows of n truths of the call's own. -/
structure Two (w wr : World) (n hb nb : Nat) (F G : Nat → Bool) : Prop where
  keeps : Below w.heap.size w wr
  here : Row wr hb n F
  next : Row wr nb n G
  ne : hb ≠ nb
  low : w.heap.size ≤ hb
  low2 : w.heap.size ≤ nb
theorem Two.below {w wr w' : World} {n hb nb : Nat} {F G : Nat → Bool} (h : Two w wr n hb nb F G) (hb' : Below wr.heap.size wr w') : Two w w' n hb nb F G :=
  ⟨h.keeps.trans (hb'.mono h.keeps.size), h.here.below hb', h.next.below hb', h.ne, h.low, h.low2⟩
theorem Two.set {w wr : World} {n hb nb : Nat} {F G : Nat → Bool} (h : Two w wr n hb nb F G) {k : Nat} (hk : k < n) (x : Bool) : Two w (wr.setCell ⟨nb, k, none⟩ (.bool x)) n hb nb F (fun j => if j = k then x else G j) :=
  ⟨h.keeps.setCell (p := ⟨nb, k, none⟩) h.low2 _, h.here.far (Ne.symm h.ne) _, h.next.set hk x, h.ne, h.low, h.low2⟩
theorem Two.setHere {w wr : World} {n hb nb : Nat} {F G : Nat → Bool} (h : Two w wr n hb nb F G) {k : Nat} (hk : k < n) (x : Bool) : Two w (wr.setCell ⟨hb, k, none⟩ (.bool x)) n hb nb (fun j => if j = k then x else F j) G :=
  ⟨h.keeps.setCell (p := ⟨hb, k, none⟩) h.low _, h.here.set hk x, h.next.far h.ne _, h.ne, h.low, h.low2⟩
theorem Two.swap {w wr : World} {n hb nb : Nat} {F G : Nat → Bool} (h : Two w wr n hb nb F G) : Two w wr n nb hb G F :=
  ⟨h.keeps, h.next, h.here, Ne.symm h.ne, h.low2, h.low⟩
theorem Two.congr {w wr : World} {n hb nb : Nat} {F G F' G' : Nat → Bool} (h : Two w wr n hb nb F G) (e : ∀ k, k < n → F k = F' k) (e' : ∀ k, k < n → G k = G' k) : Two w wr n hb nb F' G' :=
  ⟨h.keeps, h.here.congr e, h.next.congr e', h.ne, h.low, h.low2⟩

/-- The place in the text. -/
def Itr (wr : World) (k0 : Nat) (s : ByteArray) (pos : Nat) : Prop := wr.heap[k0]? = some (.stringIter s pos)
theorem Itr.lt {wr : World} {k0 pos : Nat} {s : ByteArray} (h : Itr wr k0 s pos) : k0 < wr.heap.size := (Array.getElem?_eq_some_iff.1 h).1
theorem Itr.below {wr w' : World} {k0 pos : Nat} {s : ByteArray} (h : Itr wr k0 s pos) (hb : Below wr.heap.size wr w') : Itr w' k0 s pos := (hb.block k0 h.lt).trans h
theorem Itr.set {wr : World} {k0 pos : Nat} {s : ByteArray} (h : Itr wr k0 s pos) {b o : Nat} (hb : k0 ≠ b) (x : Value) : Itr (wr.setCell ⟨b, o, none⟩ x) k0 s pos := (Go.Deep.blk_setCell_other wr ⟨b, o, none⟩ x k0 hb).trans h
theorem Itr.ne {wr : World} {k0 pos n b : Nat} {s : ByteArray} {F : Nat → Bool} (h : Itr wr k0 s pos) (hr : Row wr b n F) (hn : 0 < n) : k0 ≠ b := by
  rintro rfl
  have := (hr 0 hn).1
  unfold Itr at h
  unfold World.cell? at this
  rw [h] at this
  simp at this

theorem cel_same {w w' : World} {b o : Nat} {v : Value} (h : Cel w b o v) (e : w'.heap[b]? = w.heap[b]?) : Cel w' b o v := by
  obtain ⟨h1, h2⟩ := h
  constructor
  · unfold World.cell? at h1 ⊢
    rw [show w'.heap[(⟨b, o, none⟩ : Addr).block]? = w.heap[(⟨b, o, none⟩ : Addr).block]? from e]
    exact h1
  · unfold World.frozen? at h2 ⊢
    rw [show w'.heap[(⟨b, o, none⟩ : Addr).block]? = w.heap[(⟨b, o, none⟩ : Addr).block]? from e]
    exact h2
theorem Two.iterAt {w wr : World} {n hb nb k0 pos : Nat} {s : ByteArray} {F G : Nat → Bool} (h : Two w wr n hb nb F G) (hi : Itr wr k0 s pos) (hn : 0 < n) (hk : w.heap.size ≤ k0) (pos' : Nat) : Two w (wr.iterAt k0 s pos') n hb nb F G :=
  ⟨Lib.below_iterAt h.keeps hk s pos', fun j hj => cel_same (h.here j hj) (Lib.iterAt_other wr k0 hb s pos' (Ne.symm (hi.ne h.here hn))), fun j hj => cel_same (h.next j hj) (Lib.iterAt_other wr k0 nb s pos' (Ne.symm (hi.ne h.next hn))), h.ne, h.low, h.low2⟩
theorem Itr.at {wr : World} {k0 pos : Nat} {s : ByteArray} (h : Itr wr k0 s pos) (pos' : Nat) : Itr (wr.iterAt k0 s pos') k0 s pos' := Lib.iterAt_heap wr k0 s pos pos' h

/-- The next row, so far, and the place in the text. -/
structure Mid (w wr : World) (ps : List Pt) (n hb nb k0 pos : Nat) (s : ByteArray) (t : List Int) (c : Int) (G : Nat → Bool) (j : Nat) : Prop where
  two : Two w wr (n + 1) hb nb (st ps t) (fun i => if i ≤ j then st ps (t ++ [c]) i else G i)
  itr : Itr wr k0 s pos
theorem Mid.below {w wr w' : World} {ps : List Pt} {n hb nb k0 pos j : Nat} {s : ByteArray} {t : List Int} {c : Int} {G : Nat → Bool} (h : Mid w wr ps n hb nb k0 pos s t c G j) (hb' : Below wr.heap.size wr w') : Mid w w' ps n hb nb k0 pos s t c G j := ⟨h.two.below hb', h.itr.below hb'⟩
theorem Mid.store {w wr : World} {ps : List Pt} {n hb nb k0 pos j : Nat} {s : ByteArray} {t : List Int} {c : Int} {G : Nat → Bool} (h : Mid w wr ps n hb nb k0 pos s t c G j) (hj : j < n) (X : Bool) (hX : X = st ps (t ++ [c]) (j + 1)) : Mid w (wr.setCell ⟨nb, j + 1, none⟩ (.bool X)) ps n hb nb k0 pos s t c G (j + 1) := by
  refine ⟨Two.congr (h.two.set (k := j + 1) (by omega) X) (fun _ _ => rfl) (fun i hi => ?_), h.itr.set (h.itr.ne h.two.next (by omega)) _⟩
  by_cases e : i = j + 1
  · subst e; rw [if_pos rfl, if_pos (Nat.le_refl _), hX]
  · rw [if_neg e]
    by_cases e2 : i ≤ j
    · rw [if_pos e2, if_pos (by omega)]
    · rw [if_neg e2, if_neg (by omega)]

/-- A copy of a part in a block of its own. -/
def boxed (w : World) (p : Pt) : World := w.alloc (.cells #[.int .i32 p.char, .bool p.free, .bool p.many] 51)
theorem boxed_below (w : World) (p : Pt) : Below w.heap.size w (boxed w p) := (Below.refl _ _).alloc (Nat.le_refl _) _
theorem boxed_size (w : World) (p : Pt) : (boxed w p).heap.size = w.heap.size + 1 := by unfold boxed; simp
theorem boxed_at (w : World) (p : Pt) : PtAt (boxed w p) w.heap.size 0 p := ⟨by unfold boxed; rw [World.cell?_alloc_at _ _ _ _ rfl]; rfl, by unfold boxed; rw [World.cell?_alloc_at _ _ _ _ rfl]; rfl, by unfold boxed; rw [World.cell?_alloc_at _ _ _ _ rfl]; rfl⟩
end Go.Proofs.YtjijdaheabgphaaDoor.gparts
