/- The document's text with small letters. -/
import Derived.Test.YtelofhplpeeplaaDoorMdQuote
import Derived.Laws.AppendOwn
import Derived.Maps.AppendAt
import Derived.Laws.IdiomStrings
import Derived.Laws.BytesArg
import Derived.Lib.OthersKept
import Derived.OwnWalk
import Derived.WalkSmall
import Derived.Deep.Onto
set_option linter.unusedSimpArgs false
set_option linter.unusedVariables false
namespace Go.Proofs.YtelofhplpeeplaaDoor.media
open Go.RowKit Go.Proofs.YtelofhplpeeplaaDoor.errs Go.Proofs.YtelofhplpeeplaaDoor.gmath Go.Proofs.YtelofhplpeeplaaDoor.glref

def smB (c : UInt8) : UInt8 := if 65 ≤ c.toNat ∧ c.toNat ≤ 90 then UInt8.ofNat (c.toNat + 32) else c
theorem smB_small (c : UInt8) : small c.toNat = ((smB c).toNat : Int) := by
  have := c.toNat_lt
  unfold small smB
  by_cases h : 65 ≤ c.toNat ∧ c.toNat ≤ 90
  · rw [if_pos (by omega), if_pos h, UInt8.toNat_ofNat']
    omega
  · rw [if_neg (by omega), if_neg h]
def smL (s : ByteArray) (k : Nat) : List UInt8 := (s.data.toList.take k).map smB
def lowS (s : ByteArray) : ByteArray := ⟨(s.data.toList.map smB).toArray⟩
theorem smL_length (s : ByteArray) (k : Nat) (h : k ≤ s.size) : (smL s k).length = k := by
  unfold smL
  rw [List.length_map, List.length_take, Array.length_toList]
  exact Nat.min_eq_left h
theorem smL_next (s : ByteArray) (k : Nat) (h : k < s.size) : smL s (k + 1) = smL s k ++ [smB (s.get! k)] := by
  have h' : k < s.data.toList.length := by rw [Array.length_toList]; exact h
  have e : s.data.toList[k] = s.get! k := by
    have h2 : k < s.data.size := h
    show s.data.toList[k] = s.data[k]!
    rw [getElem!_pos s.data k h2, Array.getElem_toList]
  unfold smL
  rw [List.take_succ_eq_append_getElem h', List.map_append, e]
  rfl
theorem smL_whole (s : ByteArray) : smL s s.size = s.data.toList.map smB := by
  unfold smL
  rw [List.take_of_length_le (by rw [Array.length_toList]; exact Nat.le_refl _)]
def vals (l : List UInt8) : List Value := l.map fun c => .int .u8 c.toNat
theorem vals_length (l : List UInt8) : (vals l).length = l.length := List.length_map _
theorem infoU8 : (Tryd.prog.info? 5).map (fun i => (i.zero, i.size, i.bytes)) = some (some (.int .u8 0), 1, 1) := by kernel_rfl

/-- What an append leaves. -/
structure Put1 (base : Nat) (W w' : World) (v' : Value) (n : Nat) (xs : List Value) (u : Value) : Prop where
  own : w'.ownsRow base 5 1 v' (n + 1) (xs ++ [u])
  below : Below base W w'
theorem put_one {i : TypeInfo} (hi : Tryd.prog.info? 5 = some i) (hz : i.zero = some (.int .u8 0)) (hsize : i.size = 1) (hby : i.bytes = 1)
    {base : Nat} {W : World} {v : Value} {n : Nat} {xs : List Value} (hown : W.ownsRow base 5 1 v n xs) (u : Value) (hu : u.oneCell' = true) (hn : n ≤ 1000000) (hb : base ≤ W.heap.size)
    {ops : Array Oper} {rest : List Oper} {o : Oper} {a : Act} {Q : Exit → Act → World → Prop} (hgd : o.guard = none) (y x : Operand) (ho : o.op = .call { callee := .builtin .append, args := #[y, x], argTypes := #[23, 23] }) (hy : a.eval y = v) (hx : a.eval x = .slice (some ⟨W.heap.size, 0, none⟩) 1 1)
    (h : ∀ v' w', Put1 base W w' v' n xs u → wpList Tryd.prog ops Q rest (a.put o.dst v') w') : wpList Tryd.prog ops Q (o :: rest) a (W.alloc (.cells #[u] 5)) := by
  refine wpList_append_own _ hgd y x 23 ho base 5 i (.int .u8 0) 1 1 Tryd.underlying23 hi hz hsize hby rfl (by decide) v n xs hy (hown.alloc _) ⟨W.heap.size, 0, none⟩ 1 1 [u] hx rfl (cell_one_new W u _) (fun q hq => by rw [List.mem_singleton.1 hq]; exact hu) (by unfold maxLen; omega) (by omega) (by simp; omega) ?_
  intro v' w' hown' hgrow _
  exact h v' w' ⟨hown', ((Below.refl base W).alloc hb _).grown hgrow (by simp; omega) (fun q hq => (hown.lt q hq).1)⟩

theorem conv_vals {w : World} {B : Nat} {v : Value} {l : List UInt8} (h : w.ownsRow B 5 1 v l.length (vals l)) : (convert 23 9 v).run Tryd.prog w = .ok (.string ⟨l.toArray⟩) w := by
  rcases h.2 with ⟨rfl, h0⟩ | ⟨g, cap, cur, rfl, hB, hg, hn, hm, hs, ht⟩
  · obtain rfl : l = [] := List.length_eq_zero_iff.1 h0
    exact run_convert_bytes_nil w _ _ Tryd.underlying23 Tryd.underlying5 _ _ _ Tryd.underlying9
  · exact run_convert_bytes_back (P := Tryd.prog) w 23 9 5 ⟨g, 0, none⟩ cap l Tryd.underlying23 Tryd.underlying5 Tryd.underlying9 (fun j hj => by
      have := h.cellAt j (by omega)
      rw [show (Addr.add ⟨g, 0, none⟩ j : Addr) = ⟨g, j, none⟩ by simp [Addr.add]; try (intro h; exact h.symm), this]
      simp [vals, hj])

set_option maxRecDepth 100000 in
set_option maxHeartbeats 1000000 in
theorem rlower_any (s : ByteArray) (hs : s.size ≤ 1000000) (w : World) :
    Calls Tryd.prog 47 #[.string s] w fun e w' => e = .returned (.string (lowS s)) ∧ Below w.heap.size w w' := by
  have C := rsmall_any
  obtain ⟨i0, hi, hz0, hz1, hz2⟩ := info_parts infoU8
  obtain ⟨res, hres⟩ : ∃ res, Hid (lowS s = res) := ⟨_, rfl⟩
  rw [hres.out]
  go_enter Tryd.func47, Tryd.ntmps47
  go_wp2_with fail
  go_loopg [3, 4] s.size (fun g t b wr => ∃ (k : Nat) (t0 : Value), t0 = t ∧ b = .int .i64 k ∧ g + k = s.size ∧ Aside (wr.ownsRow w.heap.size 5 1 t k (vals (smL s k)) ∧ Below w.heap.size w wr))
  case atStart => exact ⟨0, _, rfl, rfl, rfl, World.ownsRow_lit w #[] 0 (Nat.le_refl _) (by unfold maxLen; omega) rfl, Below.refl _ _ |>.alloc (Nat.le_refl _) _⟩
  case round =>
    obtain ⟨k, t0, rfl, rfl, hg, hA⟩ := hrel
    have y1 : (0 : Int) ≤ (k : Int) := by omega
    by_cases hlt : k < s.size
    · have y0 : (k : Int) < (s.size : Int) := by omega
      have ix := byte_at s k hlt
      have hc := (s.get! k).toNat_lt
      have CS := C (s.get! k).toNat (by omega) (by omega)
      rw [smB_small] at CS
      have NX : Hid (vals (smL s (k + 1)) = vals (smL s k) ++ [.int .u8 (smB (s.get! k)).toNat]) := by
        show _ = _
        rw [smL_next s k hlt]
        exact List.map_append
      generalize (smB (s.get! k)).toNat = d at *
      generalize (s.get! k).toNat = c at *
      clear C hc
      go_wp2_with fail
      refine (CS _).mono ?_; rintro e w' ⟨rfl, rfl⟩
      go_wp2_with (at_builtin; refine put_one hi hz0 hz1 hz2 hA.out.1 (.int .u8 d) rfl (by omega) hA.out.2.size rfl _ _ rfl rfl rfl ?_)
      intro v' w3 hp
      have N : Aside (w3.ownsRow w.heap.size 5 1 v' (k + 1) (vals (smL s (k + 1))) ∧ Below w.heap.size w w3) := ⟨by rw [NX.out]; exact hp.own, hA.out.2.trans hp.below⟩
      clear hp
      go_wp2_with fail
      go_roundg (gk - 1)
      case measure => omega
      case rel => exact ⟨k + 1, v', rfl, by go_num, by omega, N.out⟩
    · have hk : k = s.size := by omega
      have y0 : ¬ (k : Int) < (s.size : Int) := by omega
      have O : wr.ownsRow w.heap.size 5 1 t0 (smL s k).length (vals (smL s k)) := by rw [smL_length s k (by omega)]; exact hA.out.1
      have cv := conv_vals O
      have V : Aside ((⟨(smL s k).toArray⟩ : ByteArray) = res) := by
        show _ = _
        rw [← hres.out, hk, smL_whole]; rfl
      generalize (⟨(smL s k).toArray⟩ : ByteArray) = q at *
      clear O hk
      go_wp2_with fail
      go_ret
      exact ⟨by rw [V.out]; rfl, hA.out.2⟩
end Go.Proofs.YtelofhplpeeplaaDoor.media
