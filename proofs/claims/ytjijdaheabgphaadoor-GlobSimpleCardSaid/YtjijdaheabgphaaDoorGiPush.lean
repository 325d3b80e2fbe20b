/- Rows that grow beside others. -/
import Derived.Test.YtjijdaheabgphaaDoorGiCheck
import Derived.Test.YtjijdaheabgphaaDoorGpTail
import Derived.Test.YtjijdaheabgphaaDoorGlMatch
import Derived.Maps.AppendAt
set_option linter.unusedSimpArgs false
set_option linter.unusedVariables false
namespace Go.Proofs.YtjijdaheabgphaaDoor.globSimple
open Go.RowKit Go.Proofs.YtjijdaheabgphaaDoor.errs Go.Proofs.YtjijdaheabgphaaDoor.rows Go.Proofs.YtjijdaheabgphaaDoor.utf Go.Proofs.YtjijdaheabgphaaDoor.umath Go.Proofs.YtjijdaheabgphaaDoor.chars Go.Proofs.YtjijdaheabgphaaDoor.gmath Go.Proofs.YtjijdaheabgphaaDoor.glref Go.Proofs.YtjijdaheabgphaaDoor.gparts Go.Proofs.YtjijdaheabgphaaDoor.text Go.Proofs.YtjijdaheabgphaaDoor.ref

/-- Two slices lie in no one block. -/
def Dis (v v' : Value) : Prop := ∀ q, v.ownBlock = some q → v'.ownBlock ≠ some q
theorem Dis.symm {v v' : Value} (h : Dis v v') : Dis v' v := fun q hq h2 => h q h2 hq
theorem infoBool1 : (Tryd.prog.info? 4).map (fun i => (i.zero, i.size, i.bytes)) = some (some (.bool false), 1, 1) := by kernel_rfl

/-- What an append leaves: the row, longer by one; and each other row as it was, in another block. -/
structure Pushed (base : Nat) (e : TypeId) (W w' : World) (v v' : Value) (n : Nat) (xs : List Value) (u : Value) : Prop where
  own : w'.ownsRow base e 1 v' (n + 1) (xs ++ [u])
  rest : ∀ e2 v2 n2 xs2, W.ownsRow base e2 1 v2 n2 xs2 → Dis v2 v → w'.ownsRow base e2 1 v2 n2 xs2 ∧ Dis v2 v'
  below : Below base W w'
theorem push_any {e t : TypeId} {i : TypeInfo} {z : Value} {bytes : Nat} (ht : Tryd.prog.underlying t = some (.slice e)) (hi : Tryd.prog.info? e = some i) (hz : i.zero = some z) (hsize : i.size = 1) (hby : i.bytes = bytes) (hbl : bytes ≤ 8) (hzs : z.cells.size = 1)
    {base : Nat} {W : World} {v : Value} {n : Nat} {xs : List Value} (hown : W.ownsRow base e 1 v n xs) (u : Value) (hu : u.oneCell' = true) (hn : n ≤ 1000000) (hb : base ≤ W.heap.size)
    {ops : Array Oper} {rest : List Oper} {o : Oper} {a : Act} {Q : Exit → Act → World → Prop} (hgd : o.guard = none) (y x : Operand) (ho : o.op = .call { callee := .builtin .append, args := #[y, x], argTypes := #[t, t] }) (hy : a.eval y = v) (hx : a.eval x = .slice (some ⟨W.heap.size, 0, none⟩) 1 1)
    (h : ∀ v' w', Pushed base e W w' v v' n xs u → wpList Tryd.prog ops Q rest (a.put o.dst v') w') : wpList Tryd.prog ops Q (o :: rest) a (W.alloc (.cells #[u] e)) := by
  refine wpList_append_own_at _ hgd y x t ho base e i z 1 bytes ht hi hz hsize hby hzs (by decide) v n xs hy (hown.alloc _) ⟨W.heap.size, 0, none⟩ 1 1 [u] hx rfl (cell_one_new W u e) (fun q hq => by rw [List.mem_singleton.1 hq]; exact hu) (by unfold maxLen; omega) (Nat.le_trans (Nat.mul_le_mul_left _ hbl) (by omega)) (by simp; omega) ?_
  intro v' w' hown' hgrow _ hblk
  refine h v' w' ⟨hown', fun e2 v2 n2 xs2 h2 hd => ⟨?_, ?_⟩, ?_⟩
  · refine (h2.alloc _).kept hgrow ?_
    cases hv : v2.ownBlock with
    | none => exact .inl rfl
    | some q => exact .inr (fun e => hd q hv e.symm)
  · intro q hq e
    rcases hblk with hb1 | hb1
    · exact hd q hq (hb1.symm.trans e)
    · have := (h2.lt q hq).2
      have e2 := hb1.symm.trans e
      simp at e2
      omega
  · exact ((Below.refl base W).alloc hb _).grown hgrow (by simp; omega) (fun q hq => (hown.lt q hq).1)

def cv (p : Pt) : Value := .int .i64 p.char
def fv (p : Pt) : Value := .bool p.free
def mv (p : Pt) : Value := .bool p.many
/-- Three rows that tell parts. -/
structure Three (base : Nat) (w wr : World) (vc vw vm : Value) (cs fs ms : List Value) : Prop where
  below : Below base w wr
  size : base ≤ wr.heap.size
  c : wr.ownsRow base 3 1 vc cs.length cs
  f : wr.ownsRow base 4 1 vw fs.length fs
  m : wr.ownsRow base 4 1 vm ms.length ms
  cf : Dis vc vw
  cm : Dis vc vm
  fm : Dis vw vm
theorem Three.pushC {base : Nat} {w W w' : World} {vc vw vm v' u : Value} {cs fs ms : List Value} (h : Three base w W vc vw vm cs fs ms) (hp : Pushed base 3 W w' vc v' cs.length cs u) : Three base w w' v' vw vm (cs ++ [u]) fs ms := by
  obtain ⟨f1, f2⟩ := hp.rest _ _ _ _ h.f h.cf.symm
  obtain ⟨m1, m2⟩ := hp.rest _ _ _ _ h.m h.cm.symm
  exact ⟨h.below.trans hp.below, Nat.le_trans h.size hp.below.size, by rw [List.length_append]; exact hp.own, f1, m1, f2.symm, m2.symm, h.fm⟩
theorem Three.pushF {base : Nat} {w W w' : World} {vc vw vm v' u : Value} {cs fs ms : List Value} (h : Three base w W vc vw vm cs fs ms) (hp : Pushed base 4 W w' vw v' fs.length fs u) : Three base w w' vc v' vm cs (fs ++ [u]) ms := by
  obtain ⟨c1, c2⟩ := hp.rest _ _ _ _ h.c h.cf
  obtain ⟨m1, m2⟩ := hp.rest _ _ _ _ h.m h.fm.symm
  exact ⟨h.below.trans hp.below, Nat.le_trans h.size hp.below.size, c1, by rw [List.length_append]; exact hp.own, m1, c2, h.cm, m2.symm⟩
theorem Three.pushM {base : Nat} {w W w' : World} {vc vw vm v' u : Value} {cs fs ms : List Value} (h : Three base w W vc vw vm cs fs ms) (hp : Pushed base 4 W w' vm v' ms.length ms u) : Three base w w' vc vw v' cs fs (ms ++ [u]) := by
  obtain ⟨c1, c2⟩ := hp.rest _ _ _ _ h.c h.cm
  obtain ⟨f1, f2⟩ := hp.rest _ _ _ _ h.f h.fm
  exact ⟨h.below.trans hp.below, Nat.le_trans h.size hp.below.size, c1, f1, by rw [List.length_append]; exact hp.own, h.cf, c2, f2⟩
theorem three_new (w : World) : Three w.heap.size w (((w.alloc (.cells #[] 3)).alloc (.cells #[] 4)).alloc (.cells #[] 4)) (.slice (some ⟨w.heap.size, 0, none⟩) 0 0) (.slice (some ⟨w.heap.size + 1, 0, none⟩) 0 0) (.slice (some ⟨w.heap.size + 1 + 1, 0, none⟩) 0 0) [] [] [] := by
  have e1 : (w.alloc (.cells #[] 3)).heap.size = w.heap.size + 1 := by simp
  have e2 : ((w.alloc (.cells #[] 3)).alloc (.cells #[] 4)).heap.size = w.heap.size + 1 + 1 := by simp
  have c := World.ownsRow_lit (base := w.heap.size) (e := 3) (size := 1) w #[] 0 (Nat.le_refl _) (by unfold maxLen; omega) rfl
  have f := World.ownsRow_lit (base := w.heap.size) (e := 4) (size := 1) (w.alloc (.cells #[] 3)) #[] 0 (by omega) (by unfold maxLen; omega) rfl
  have m := World.ownsRow_lit (base := w.heap.size) (e := 4) (size := 1) ((w.alloc (.cells #[] 3)).alloc (.cells #[] 4)) #[] 0 (by omega) (by unfold maxLen; omega) rfl
  rw [e1] at f
  rw [e2] at m
  refine ⟨(((Below.refl _ w).alloc (Nat.le_refl _) _).alloc (by omega) _).alloc (by omega) _, by simp; omega, (c.alloc _).alloc _, f.alloc _, m, ?_, ?_, ?_⟩
  · intro q hq h2; simp [Value.ownBlock] at hq h2; omega
  · intro q hq h2; simp [Value.ownBlock] at hq h2; omega
  · intro q hq h2; simp [Value.ownBlock] at hq h2; omega

/-- A row of one-cell elements opened. -/
def Held (w : World) (v : Value) (xs : List Value) : Prop := ∃ a cap, v = .slice a xs.length cap ∧ xs.length ≤ cap ∧ cap ≤ 9223372036854775807 ∧ (0 < xs.length → ∃ g, a = some ⟨g, 0, none⟩ ∧ ∀ j (h : j < xs.length), w.cell? ⟨g, j, none⟩ = some xs[j])
theorem held_of_own {w : World} {base : Nat} {e : TypeId} {v : Value} {xs : List Value} (h : w.ownsRow base e 1 v xs.length xs) : Held w v xs := by
  rcases h.2 with ⟨rfl, hn⟩ | ⟨g, cap, cur, rfl, hB, hg, hn, hm, hs, ht⟩
  · have : xs = [] := List.length_eq_zero_iff.1 hn
    subst this
    exact ⟨none, 0, rfl, Nat.le_refl _, by omega, fun h => absurd h (by decide)⟩
  · refine ⟨_, cap, rfl, hn, by unfold maxLen at hm; omega, fun _ => ⟨g, rfl, fun j hj => ?_⟩⟩
    rw [h.cellAt j (by omega), List.getElem?_eq_getElem hj]
theorem Held.below {w w' : World} {v : Value} {xs : List Value} (h : Held w v xs) (hb : Below w.heap.size w w') : Held w' v xs := by
  obtain ⟨a, cap, rfl, h1, h2, h3⟩ := h
  refine ⟨a, cap, rfl, h1, h2, fun h => ?_⟩
  obtain ⟨g, rfl, hB⟩ := h3 h
  exact ⟨g, rfl, fun j hj => (hb.cell (p := ⟨g, j, none⟩) (lt_of_cell (hB j hj))).trans (hB j hj)⟩

theorem held_at {w : World} {a : Option Addr} {n cap : Nat} {f : Pt → Value} {P : List Pt} (h : Held w (.slice a n cap) (P.map f)) {i : Nat} (hi : i < P.length) : ∃ g, a = some ⟨g, 0, none⟩ ∧ w.cell? ⟨g, i, none⟩ = some (f (gparts.at_ P i)) := by
  obtain ⟨a', c', ev, -, -, q⟩ := h
  have hl : (P.map f).length = P.length := List.length_map _
  obtain ⟨g, hg, hq⟩ := q (by omega)
  simp only [Value.slice.injEq] at ev
  refine ⟨g, ev.1.trans hg, ?_⟩
  have := hq i (by omega)
  rw [this, List.getElem_map]
  unfold gparts.at_
  rw [List.getD_eq_getElem?_getD, List.getElem?_eq_getElem hi]
  rfl

/-- The row for parts' rest. -/
def atP (P : List Pt) (T : List Int) (k : Nat) : Bool := lg P (T.drop k)
def stepQ (p : Pt) (ends : Nat → Bool) (T : List Int) (more : Bool) (k : Nat) : Bool :=
  if p.many then ends k || ((decide (k < T.length) && p.takes (T.getD k 0)) && more) else (decide (k < T.length) && p.takes (T.getD k 0)) && ends (k + 1)
theorem drop_part (P : List Pt) (i : Nat) (h : i < P.length) : P.drop i = gparts.at_ P i :: P.drop (i + 1) := by
  rw [List.drop_eq_getElem_cons h]
  unfold gparts.at_
  rw [List.getD_eq_getElem?_getD, List.getElem?_eq_getElem h]
  rfl
theorem step_atP (P : List Pt) (T : List Int) (i k : Nat) (hi : i < P.length) (hk : k ≤ T.length) : atP (P.drop i) T k = stepQ (gparts.at_ P i) (atP (P.drop (i + 1)) T) T (atP (P.drop i) T (k + 1)) k := by
  unfold atP stepQ
  rw [drop_part P i hi]
  generalize gparts.at_ P i = p
  generalize P.drop (i + 1) = R
  dsimp only
  by_cases h : k < T.length
  · rw [drop_at T k h, decide_eq_true h, Bool.true_and, lg_cons]
  · have e : T.drop k = [] := List.drop_of_length_le (by omega)
    rw [e, lg_end, decide_eq_false h]
    cases p.many <;> simp
theorem atP_nil (T : List Int) (k : Nat) (hk : k ≤ T.length) : atP [] T k = decide (k = T.length) := by
  unfold atP
  rw [lg_nil]
  by_cases h : k = T.length
  · rw [decide_eq_true h, h, List.drop_length]; rfl
  · rw [decide_eq_false h, drop_at T k (by omega)]; rfl
end Go.Proofs.YtjijdaheabgphaaDoor.globSimple
