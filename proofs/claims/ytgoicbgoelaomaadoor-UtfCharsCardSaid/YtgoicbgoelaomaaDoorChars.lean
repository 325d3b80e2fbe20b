/- utf.Chars: all characters of right bytes, in memory of its own, or Valid's fault. -/
import Derived.Test.YtgoicbgoelaomaaDoorValid
import Derived.Laws.AppendOwn
import Derived.Laws.IdiomStrings
import Derived.Laws.BytesArg
import Derived.Lib.OthersKept
import Derived.Deep.LoopGhost
import Derived.OwnWalk
import Derived.WalkSmall
import Derived.Deep.Onto
set_option linter.unusedSimpArgs false
set_option linter.unusedVariables false
namespace Go.Proofs.YtgoicbgoelaomaaDoor.chars
open Go.RowKit Go.Proofs.YtgoicbgoelaomaaDoor.errs Go.Proofs.YtgoicbgoelaomaaDoor.utf

theorem conv_sl {w : World} {v : Value} {s : ByteArray} (h : Sl w v s) : (convert 31 9 v).run Tryd.prog w = .ok (.string s) w := by
  obtain ⟨a, cap, rfl, h1, h2, h3⟩ := h
  by_cases h0 : 0 < s.size
  · obtain ⟨b, off, rfl, hB⟩ := h3 h0
    have := run_convert_bytes_back (P := Tryd.prog) w 31 9 5 ⟨b, off, none⟩ cap s.data.toList Tryd.underlying31 Tryd.underlying5 Tryd.underlying9 (fun j hj => by
      have hj' : j < s.size := by simpa using hj
      have := hB j hj'
      rw [show (Addr.add ⟨b, off, none⟩ j : Addr) = ⟨b, off + j, none⟩ by simp [Addr.add], this]
      have hj2 : j < s.data.size := hj'
      simp [ByteArray.get!, getElem!_pos s.data j hj2])
    simpa using this
  · have e : s.size = 0 := by omega
    have hs : s = ⟨#[]⟩ := by
      obtain ⟨d⟩ := s
      have : d = #[] := Array.size_eq_zero_iff.1 e
      rw [this]
    subst hs
    cases a with
    | none => exact run_convert_bytes_nil w _ _ Tryd.underlying31 Tryd.underlying5 _ _ _ Tryd.underlying9
    | some ad => exact run_convert_bytes_back (P := Tryd.prog) w 31 9 5 ad cap [] Tryd.underlying31 Tryd.underlying5 Tryd.underlying9 (fun j hj => by simp at hj)

/-- The characters from a place on (in so many steps). -/
def from_ (s : ByteArray) : Nat → Nat → List Int
  | 0, _ => []
  | g + 1, i => if i < s.size then ((Utf8.decode s i).1 : Int) :: from_ s g (i + (Utf8.decode s i).2) else []
def all (s : ByteArray) : List Int := from_ s s.size 0
theorem from_end (s : ByteArray) (g i : Nat) (h : s.size ≤ i) : from_ s g i = [] := by
  cases g with
  | zero => rfl
  | succ g => simp [from_, Nat.not_lt.2 h]
theorem from_step (s : ByteArray) (g i : Nat) (h : i < s.size) : from_ s (g + 1) i = ((Utf8.decode s i).1 : Int) :: from_ s g (i + (Utf8.decode s i).2) := by simp [from_, h]

def ints (l : List Int) : List Value := l.map (Value.int .i64)

/-- What utf.Chars answers. -/
def CharsOut (s : ByteArray) (o : Option Nat) (w : World) (e : Ending) (w' : World) : Prop :=
  match o with
  | none => ∃ v, e = .returned (.tuple #[v, .nilIface]) ∧ w'.ownsRow w.heap.size 3 1 v (all s).length (ints (all s)) ∧ Below w.heap.size w w'
  | some i => Failed w e w' 12 i fun v => .tuple #[.slice none 0 0, v]

theorem infoInt : (Tryd.prog.info? 3).map (fun i => (i.zero, i.size, i.bytes)) = some (some (.int .i64 0), 1, 8) := by kernel_rfl

set_option maxHeartbeats 2000000 in
theorem chars_bad (s : ByteArray) (i : Nat) (v : Value) (w : World) (hT : Tabs w) (hv : Sl w v s) (hb : firstBad s = some i) :
    Calls Tryd.prog 18 #[v] w fun e w' => CharsOut s (firstBad s) w e w' := by
  have C : Calls Tryd.prog 19 #[v] w fun e w' => ∃ bb, e = .returned (.iface 59 (.pointer (some ⟨bb, 0, none⟩))) ∧ Aside (FaultAt w' (.iface 59 (.pointer (some ⟨bb, 0, none⟩))) 12 i .nilIface ∧ Below w.heap.size w w') := by
    have := valid_any s v w hT hv
    rw [hb] at this
    exact this.mono Failed.opened
  rw [hb]
  obtain ⟨a, cap, rfl, h1, h2, h3⟩ := hv
  clear h3 hT hb
  go_enter Tryd.func18, Tryd.ntmps18
  go_wp2_with (go_at_call 19; refine C.mono ?_; rintro e w' ⟨bb, rfl, hF⟩)
  go_ret2
  exact ⟨_, rfl, hF.out.1, hF.out.2⟩

set_option maxHeartbeats 2000000 in
theorem chars_good (s : ByteArray) (v : Value) (w : World) (hT : Tabs w) (hv : Sl w v s) (hb : firstBad s = none) (hz : s.size ≤ 1000000) :
    Calls Tryd.prog 18 #[v] w fun e w' => CharsOut s (firstBad s) w e w' := by
  have C : Calls Tryd.prog 19 #[v] w fun e w' => e = .returned .nilIface ∧ Below w.heap.size w w' := by
    have := valid_any s v w hT hv
    rw [hb] at this
    exact this
  rw [hb]
  have hV : Aside (Sl w v s) := hv
  obtain ⟨a, cap, ev, h1, h2, h3⟩ := hv
  have hcv : ∀ w1, Below w.heap.size w w1 → (convert 31 9 (.slice a s.size cap)).run Tryd.prog w1 = .ok (.string s) w1 := fun w1 h => by rw [← ev]; exact conv_sl (hV.out.below h)
  subst ev
  clear h3 hT hb
  obtain ⟨n, hn⟩ : ∃ n, Hid (s.size = n) := ⟨_, rfl⟩
  rw [hn.out] at C hcv h1 hz ⊢
  go_enter Tryd.func18, Tryd.ntmps18
  go_wp2_with fail
  refine C.mono ?_; rintro e w1 ⟨rfl, hb1⟩
  have hc1 := hcv w1 hb1
  clear hcv
  go_wp2_with fail
  obtain ⟨i0, hi, hz0, hz1, hz2⟩ := info_parts infoInt
  have hit0 : Aside ((w1.iter s 0).heap[w1.heap.size]? = some (.stringIter s 0)) := World.iter_heap w1 s 0
  have hbw : Aside (Below w.heap.size w (w1.iter s 0)) := hb1.alloc hb1.size _
  have hsz : w1.heap.size < (w1.iter s 0).heap.size := by show _ < (w1.heap.push _).size; simp
  have hk0 : w.heap.size ≤ w1.heap.size := hb1.size
  generalize w1.iter s 0 = w2 at *
  generalize w1.heap.size = k0 at *
  clear hc1 hb1
  go_loopg [5] n (fun g t wr => ∃ (pos : Nat) (acc : List Int) (t0 : Value), t0 = t ∧ pos ≤ n ∧ n ≤ pos + g ∧ acc.length ≤ pos ∧ Aside (acc ++ from_ s g pos = all s ∧ wr.ownsRow (k0 + 1) 3 1 t0 acc.length (ints acc) ∧ wr.heap[k0]? = some (.stringIter s pos) ∧ Below w.heap.size w wr))
  case atStart => exact ⟨0, [], _, rfl, by omega, by omega, by simp, by simp [all, hn.out], World.ownsRow_nil w2 _ _ _, hit0.out, hbw.out⟩
  case round =>
    clear hit0 hbw hsz
    obtain ⟨pos, acc, t0, rfl, hp, hg, hal, hA⟩ := hrel
    by_cases hlt : pos < n
    · obtain ⟨g, rfl⟩ : ∃ g, gk = g + 1 := ⟨gk - 1, by omega⟩
      have hps : pos < s.size := by rw [hn.out]; exact hlt
      have hnx := fun ty => Lib.run_next_any_at (P := Tryd.prog) wr k0 s pos ty hA.out.2.2.1 hps
      have hf : Hid (acc ++ ((Utf8.decode s pos).1 : Int) :: from_ s g (pos + (Utf8.decode s pos).2) = all s) := by
        have := hA.out.1
        rwa [from_step s g pos hps] at this
      have hfit := decode_fits s pos hps
      rw [hn.out] at hfit
      obtain ⟨b1, b2, b3⟩ := decode_bounds s pos
      have hk0w : k0 < wr.heap.size := (Array.getElem?_eq_some_iff.1 hA.out.2.2.1).1
      have hown : (wr.iterAt k0 s (pos + (Utf8.decode s pos).2)).ownsRow (k0 + 1) 3 1 t0 acc.length (ints acc) := ownsRow_iterAt hA.out.2.1 (by omega) s _
      have hit : (wr.iterAt k0 s (pos + (Utf8.decode s pos).2)).heap[k0]? = some (.stringIter s (pos + (Utf8.decode s pos).2)) := Lib.iterAt_heap wr k0 s pos _ hA.out.2.2.1
      have hbe : Below w.heap.size w (wr.iterAt k0 s (pos + (Utf8.decode s pos).2)) := Lib.below_iterAt hA.out.2.2.2 hk0 s _
      have hsz : k0 < (wr.iterAt k0 s (pos + (Utf8.decode s pos).2)).heap.size := by rw [Lib.iterAt_size]; exact hk0w
      have Q : Aside ((wr.iterAt k0 s (pos + (Utf8.decode s pos).2)).heap[k0]? = some (.stringIter s (pos + (Utf8.decode s pos).2)) ∧ Below w.heap.size w (wr.iterAt k0 s (pos + (Utf8.decode s pos).2))) := ⟨hit, hbe⟩
      clear hit hbe
      generalize (Utf8.decode s pos).1 = R at *
      generalize (Utf8.decode s pos).2 = K at *
      generalize hW : wr.iterAt k0 s (pos + K) = W at *
      have HW := Lib.hid hW
      clear hW
      have HO : Aside (W.ownsRow (k0 + 1) 3 1 t0 acc.length (ints acc)) := hown
      clear hown hps
      go_wp2_with (at_builtin; refine wpList_append_own _ rfl _ _ 37 rfl (k0 + 1) 3 i0 (.int .i64 0) 1 8 Tryd.underlying37 hi hz0 hz1 hz2 rfl (by decide) t0 acc.length (ints acc) rfl (HO.out.alloc _) ⟨W.heap.size, 0, none⟩ 1 1 [.int .i64 (R : Int)] rfl rfl ?c1 ?c2 ?c3 ?c4 ?c5 ?_)
      case c1 =>
        intro j u hj
        obtain rfl : j = 0 := by
          have := (List.getElem?_eq_some_iff.1 hj).1
          simpa using this
        rw [show (Addr.add ⟨W.heap.size, 0, none⟩ 0 : Addr) = ⟨W.heap.size, 0, none⟩ by simp [Addr.add], World.cell?_alloc_at _ _ _ _ rfl]
        simpa using hj
      case c2 => intro u hu; simp at hu; subst hu; rfl
      case c3 => unfold maxLen; omega
      case c4 => omega
      case c5 => simp; omega
      intro v' w3 hown' hgrow _
      have hl := HO.out.lt
      have N : Aside (w3.ownsRow (k0 + 1) 3 1 v' (acc.length + 1) (ints acc ++ [Value.int IntKind.i64 (R : Int)]) ∧ w3.heap[k0]? = some (.stringIter s (pos + K)) ∧ Below w.heap.size w w3) := by
        refine ⟨hown', ?_, ?_⟩
        · rw [hgrow.block k0 (by simp; omega) (fun e => by have := (hl k0 e.symm).1; omega), Below.heap_alloc _ _ _ hsz]
          exact Q.out.1
        · exact (Q.out.2.alloc Q.out.2.size _).grown hgrow (by have := Q.out.2.size; simp; omega) (fun q hq => by have := (hl q hq).1; omega)
      clear hown' hgrow hl hsz HW hnx
      go_wp2_with fail
      go_roundg g
      case measure => omega
      case rel =>
        refine ⟨pos + K, acc ++ [(R : Int)], v', rfl, by omega, by omega, by simp; omega, ?_, ?_, N.out.2.1, N.out.2.2⟩
        · rw [← hf.out]; simp
        · have := N.out.1
          simpa [ints] using this
    · have hpn : ¬ pos < s.size := by rw [hn.out]; exact hlt
      have hnx := fun ty => Lib.run_next_end_at (P := Tryd.prog) wr k0 s pos ty hA.out.2.2.1 hpn
      have V : Aside (acc = all s) := by
        have := hA.out.1
        rw [from_end s gk pos (by omega)] at this
        exact (List.append_nil acc).symm.trans this
      go_wp2_with fail
      go_ret2
      exact ⟨t0, rfl, by rw [← V.out]; exact hA.out.2.1.mono (by omega), hA.out.2.2.2⟩
end Go.Proofs.YtgoicbgoelaomaaDoor.chars
