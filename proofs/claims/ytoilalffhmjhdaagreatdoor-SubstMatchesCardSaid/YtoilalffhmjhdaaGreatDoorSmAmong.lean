/- The document's own Names. -/
import Derived.Test.YtoilalffhmjhdaaGreatDoorSmCheck
import Derived.Laws.AppendOwn
import Derived.Maps.AppendAt
import Derived.Laws.IdiomStrings
import Derived.Laws.BytesArg
import Derived.Lib.OthersKept
import Derived.OwnWalk
import Derived.WalkSmall
import Derived.Deep.Onto
import Derived.Test.YtoilalffhmjhdaaGreatDoorRefText
import Derived.Test.YtoilalffhmjhdaaGreatDoorPutMath
import Derived.Test.YtoilalffhmjhdaaGreatDoorSvClass
set_option linter.unusedSimpArgs false
set_option linter.unusedVariables false
namespace Go.Proofs.YtoilalffhmjhdaaGreatDoor.subst
open Go.RowKit Go.Proofs.YtoilalffhmjhdaaGreatDoor.errs Go.Proofs.YtoilalffhmjhdaaGreatDoor.rows Go.Proofs.YtoilalffhmjhdaaGreatDoor.utf Go.Proofs.YtoilalffhmjhdaaGreatDoor.ref Go.Proofs.YtoilalffhmjhdaaGreatDoor.glref Go.Proofs.YtoilalffhmjhdaaGreatDoor.gmath Go.Proofs.YtoilalffhmjhdaaGreatDoor.chars

/-- A slice of texts of the call's own. -/
def Txts (w : World) (B : Nat) (v : Value) (l : List ByteArray) : Prop := w.ownsRow B 9 1 v l.length (l.map Value.string)
theorem Txts.reads {w : World} {B : Nat} {v : Value} {l : List ByteArray} (h : Txts w B v l) : StrsIn w v l := by
  rcases h.2 with ⟨rfl, hn⟩ | ⟨g, cap, cur, rfl, h1, h2, h3, h4, h5, h6⟩
  · rw [List.length_eq_zero_iff.1 hn]; exact strsIn_nil w
  · refine ⟨_, cap, rfl, h3, by unfold maxLen at h4; omega, fun _ => ⟨g, 0, rfl, fun j hj => ?_⟩⟩
    have := h.cellAt j (by rw [Nat.mul_one]; exact hj)
    rw [List.getElem?_map, List.getElem?_eq_getElem hj] at this
    rw [Nat.zero_add, List.getD_eq_getElem?_getD, List.getElem?_eq_getElem hj]
    exact this
theorem infoStr : (Tryz.prog.info? 9).map (fun i => (i.zero, i.size, i.bytes)) = some (some (.string ⟨#[]⟩), 1, 16) := by kernel_rfl

set_option maxRecDepth 100000 in
set_option maxHeartbeats 4000000 in
theorem rnames_any (s : ByteArray) (hs : s.size ≤ 1000000) (w : World) :
    Calls Tryz.prog 13 #[.string s] w fun e w' => ∃ v, e = .returned v ∧ Hid (Txts w' w.heap.size v (namesOf (partsOf s.data.toList)) ∧ Below w.heap.size w w') := by
  have hl : s.data.toList.length = s.size := Array.length_toList
  have HL := Lib.hid hl
  obtain ⟨r, hr⟩ : ∃ r, Hid (namesOf (Pf s.data.toList 0) = r) := ⟨_, rfl⟩
  rw [Pf_all, hr.out]
  obtain ⟨i0, hi, hz0, hz1, hz2⟩ := info_parts infoStr
  clear hl
  go_enter Tryz.func13, Tryz.ntmps13
  go_wp2_with fail
  go_loopg [3, 4] s.size (fun g t u wr => ∃ (a : Nat) (acc : List ByteArray) (t0 : Value), u = .int .i64 a ∧ t0 = t ∧ g + a = s.size ∧ acc.length ≤ a ∧ Hid (acc ++ namesOf (Pf s.data.toList a) = r ∧ Txts wr w.heap.size t0 acc ∧ Below w.heap.size w wr))
  case atStart => exact ⟨0, [], _, rfl, rfl, rfl, Nat.le_refl _, hr.out, World.ownsRow_lit w #[] 0 (Nat.le_refl _) (by unfold maxLen; omega) rfl, (Below.refl _ _).alloc (Nat.le_refl _) _⟩
  case round =>
    clear hr
    obtain ⟨a, acc, t0, rfl, rfl, hg, hal, hA⟩ := hrel
    have N := rnext_any s a (by omega) hs wr
    have ha : a ≤ s.data.toList.length := by rw [HL.out]; omega
    by_cases hii : nextI s.data.toList a < s.data.toList.length
    · by_cases hj : nextJ s.data.toList (nextI s.data.toList a) < s.data.toList.length
      · rw [nextV_var hii hj] at N
        have B := hA.out.1
        rw [names_var ha hii hj] at B
        have CN := cut_name s (nextI s.data.toList a) hj (by have := hj; unfold nextJ at this; rw [HL.out] at this; omega)
        have q0 : a ≤ nextI s.data.toList a := Nat.le_add_right _ _
        have q1 : nextI s.data.toList a + 2 ≤ nextJ s.data.toList (nextI s.data.toList a) := Nat.le_add_right _ _
        have q2 : nextJ s.data.toList (nextI s.data.toList a) < s.size := by rw [← HL.out]; exact hj
        clear hii hj
        generalize nextJ s.data.toList (nextI s.data.toList a) = J at *
        generalize T (nameAt s.data.toList (nextI s.data.toList a)) = nm at *
        generalize nextI s.data.toList a = I at *
        have v0 : (0 : Int) ≤ (I : Int) := by omega
        have v1 : (0 : Int) ≤ (J : Int) := by omega
        have B := Lib.hid B
        go_wp2_with fail
        refine N.mono ?_; rintro e w2 ⟨rfl, rfl⟩
        clear N
        go_wp2_with (at_builtin; refine wpList_append_own _ rfl _ _ 32 rfl w.heap.size 9 i0 (.string ⟨#[]⟩) 1 16 Tryz.underlying32 hi hz0 hz1 hz2 rfl (by decide) t0 acc.length (acc.map Value.string) rfl (hA.out.2.1.alloc _) ⟨w2.heap.size, 0, none⟩ 1 1 [.string nm] rfl rfl ?c1 ?c2 ?c3 ?c4 ?c5 ?_)
        case c1 =>
          intro j u hj
          obtain rfl : j = 0 := by
            have := (List.getElem?_eq_some_iff.1 hj).1
            simpa using this
          rw [show (Addr.add ⟨w2.heap.size, 0, none⟩ 0 : Addr) = ⟨w2.heap.size, 0, none⟩ by simp [Addr.add], World.cell?_alloc_at _ _ _ _ rfl]
          simpa using hj
        case c2 => intro u hu; simp at hu; subst hu; rfl
        case c3 => unfold maxLen; omega
        case c4 => omega
        case c5 => have := hA.out.2.2.size; simp; omega
        intro v' w3 hown' hgrow _
        have NX : Hid ((acc ++ [nm]) ++ namesOf (Pf s.data.toList (J + 1)) = r ∧ Txts w3 w.heap.size v' (acc ++ [nm]) ∧ Below w.heap.size w w3) := by
          refine ⟨?_, ?_, (hA.out.2.2.alloc hA.out.2.2.size _).grown hgrow (by have := hA.out.2.2.size; simp; omega) (fun q hq => (hA.out.2.1.lt q hq).1)⟩
          · rw [← B.out]; simp
          · unfold Txts
            rw [List.length_append, List.length_singleton, List.map_append]
            exact hown'
        clear hown' hgrow hA B
        go_wp2_with fail
        go_roundg (s.size - (J + 1))
        case measure => omega
        case rel => exact ⟨J + 1, acc ++ [nm], v', by go_num, rfl, by omega, by simp; omega, NX⟩
      · rw [nextV_open hii hj] at N
        have B := hA.out.1
        rw [names_open ha hii hj, List.append_nil] at B
        have NX : Hid (Txts wr w.heap.size t0 r ∧ Below w.heap.size w wr) := ⟨by rw [← B]; exact hA.out.2.1, hA.out.2.2⟩
        clear hii hj hA B ha
        generalize nextI s.data.toList a = I at *
        have v0 : (0 : Int) ≤ (I : Int) := by omega
        go_wp2_with fail
        refine N.mono ?_; rintro e w2 ⟨rfl, rfl⟩
        clear N
        go_wp2_with fail
        go_ret
        exact ⟨t0, rfl, NX⟩
    · rw [nextV_none hii] at N
      have B := hA.out.1
      rw [names_stop ha hii, List.append_nil] at B
      have NX : Hid (Txts wr w.heap.size t0 r ∧ Below w.heap.size w wr) := ⟨by rw [← B]; exact hA.out.2.1, hA.out.2.2⟩
      clear hii hA B ha
      go_wp2_with fail
      refine N.mono ?_; rintro e w2 ⟨rfl, rfl⟩
      clear N
      go_wp2_with fail
      go_ret
      exact ⟨t0, rfl, NX⟩
end Go.Proofs.YtoilalffhmjhdaaGreatDoor.subst
/- The document's text with small letters. -/
set_option linter.unusedSimpArgs false
set_option linter.unusedVariables false
namespace Go.Proofs.YtoilalffhmjhdaaGreatDoor.slow
open Go.RowKit Go.Proofs.YtoilalffhmjhdaaGreatDoor.errs Go.Proofs.YtoilalffhmjhdaaGreatDoor.gmath Go.Proofs.YtoilalffhmjhdaaGreatDoor.glref Go.Proofs.YtoilalffhmjhdaaGreatDoor.subst

def smB (c : UInt8) : UInt8 := if 65 ≤ c.toNat ∧ c.toNat ≤ 90 then UInt8.ofNat (c.toNat + 32) else c
theorem smB_small (c : UInt8) : small c.toNat = ((smB c).toNat : Int) := by
  have := c.toNat_lt
  unfold small smB
  by_cases h : 65 ≤ c.toNat ∧ c.toNat ≤ 90
  · rw [if_pos (by omega), if_pos h, UInt8.toNat_ofNat']
    omega
  · rw [if_neg (by omega), if_neg h]
def smL (s : ByteArray) (k : Nat) : List UInt8 := (s.data.toList.take k).map smB
def lowS (s : ByteArray) : ByteArray := ⟨(s.data.toList.map smB).toArray⟩
theorem smL_length (s : ByteArray) (k : Nat) (h : k ≤ s.size) : (smL s k).length = k := by
  unfold smL
  rw [List.length_map, List.length_take, Array.length_toList]
  exact Nat.min_eq_left h
theorem smL_next (s : ByteArray) (k : Nat) (h : k < s.size) : smL s (k + 1) = smL s k ++ [smB (s.get! k)] := by
  have h' : k < s.data.toList.length := by rw [Array.length_toList]; exact h
  have e : s.data.toList[k] = s.get! k := by
    have h2 : k < s.data.size := h
    show s.data.toList[k] = s.data[k]!
    rw [getElem!_pos s.data k h2, Array.getElem_toList]
  unfold smL
  rw [List.take_succ_eq_append_getElem h', List.map_append, e]
  rfl
theorem smL_whole (s : ByteArray) : smL s s.size = s.data.toList.map smB := by
  unfold smL
  rw [List.take_of_length_le (by rw [Array.length_toList]; exact Nat.le_refl _)]
def vals (l : List UInt8) : List Value := l.map fun c => .int .u8 c.toNat
theorem vals_length (l : List UInt8) : (vals l).length = l.length := List.length_map _
theorem infoU8 : (Tryz.prog.info? 5).map (fun i => (i.zero, i.size, i.bytes)) = some (some (.int .u8 0), 1, 1) := by kernel_rfl

/-- What an append leaves. -/
structure Put1 (base : Nat) (W w' : World) (v' : Value) (n : Nat) (xs : List Value) (u : Value) : Prop where
  own : w'.ownsRow base 5 1 v' (n + 1) (xs ++ [u])
  below : Below base W w'
theorem put_one {i : TypeInfo} (hi : Tryz.prog.info? 5 = some i) (hz : i.zero = some (.int .u8 0)) (hsize : i.size = 1) (hby : i.bytes = 1)
    {base : Nat} {W : World} {v : Value} {n : Nat} {xs : List Value} (hown : W.ownsRow base 5 1 v n xs) (u : Value) (hu : u.oneCell' = true) (hn : n ≤ 1000000) (hb : base ≤ W.heap.size)
    {ops : Array Oper} {rest : List Oper} {o : Oper} {a : Act} {Q : Exit → Act → World → Prop} (hgd : o.guard = none) (y x : Operand) (ho : o.op = .call { callee := .builtin .append, args := #[y, x], argTypes := #[74, 74] }) (hy : a.eval y = v) (hx : a.eval x = .slice (some ⟨W.heap.size, 0, none⟩) 1 1)
    (h : ∀ v' w', Put1 base W w' v' n xs u → wpList Tryz.prog ops Q rest (a.put o.dst v') w') : wpList Tryz.prog ops Q (o :: rest) a (W.alloc (.cells #[u] 5)) := by
  refine wpList_append_own _ hgd y x 74 ho base 5 i (.int .u8 0) 1 1 Tryz.underlying74 hi hz hsize hby rfl (by decide) v n xs hy (hown.alloc _) ⟨W.heap.size, 0, none⟩ 1 1 [u] hx rfl (cell_one_new W u _) (fun q hq => by rw [List.mem_singleton.1 hq]; exact hu) (by unfold maxLen; omega) (by omega) (by simp; omega) ?_
  intro v' w' hown' hgrow _
  exact h v' w' ⟨hown', ((Below.refl base W).alloc hb _).grown hgrow (by simp; omega) (fun q hq => (hown.lt q hq).1)⟩

theorem conv_vals {w : World} {B : Nat} {v : Value} {l : List UInt8} (h : w.ownsRow B 5 1 v l.length (vals l)) : (convert 74 9 v).run Tryz.prog w = .ok (.string ⟨l.toArray⟩) w := by
  rcases h.2 with ⟨rfl, h0⟩ | ⟨g, cap, cur, rfl, hB, hg, hn, hm, hs, ht⟩
  · obtain rfl : l = [] := List.length_eq_zero_iff.1 h0
    exact run_convert_bytes_nil w _ _ Tryz.underlying74 Tryz.underlying5 _ _ _ Tryz.underlying9
  · exact run_convert_bytes_back (P := Tryz.prog) w 74 9 5 ⟨g, 0, none⟩ cap l Tryz.underlying74 Tryz.underlying5 Tryz.underlying9 (fun j hj => by
      have := h.cellAt j (by omega)
      rw [show (Addr.add ⟨g, 0, none⟩ j : Addr) = ⟨g, j, none⟩ by simp [Addr.add]; try (intro h; exact h.symm), this]
      simp [vals, hj])

set_option maxRecDepth 100000 in
set_option maxHeartbeats 1000000 in
theorem rlower_any (s : ByteArray) (hs : s.size ≤ 1000000) (w : World) :
    Calls Tryz.prog 82 #[.string s] w fun e w' => e = .returned (.string (lowS s)) ∧ Below w.heap.size w w' := by
  have C := rsmall_any
  obtain ⟨i0, hi, hz0, hz1, hz2⟩ := info_parts infoU8
  obtain ⟨res, hres⟩ : ∃ res, Hid (lowS s = res) := ⟨_, rfl⟩
  rw [hres.out]
  go_enter Tryz.func82, Tryz.ntmps82
  go_wp2_with fail
  go_loopg [3, 4] s.size (fun g t b wr => ∃ (k : Nat) (t0 : Value), t0 = t ∧ b = .int .i64 k ∧ g + k = s.size ∧ Aside (wr.ownsRow w.heap.size 5 1 t k (vals (smL s k)) ∧ Below w.heap.size w wr))
  case atStart => exact ⟨0, _, rfl, rfl, rfl, World.ownsRow_lit w #[] 0 (Nat.le_refl _) (by unfold maxLen; omega) rfl, Below.refl _ _ |>.alloc (Nat.le_refl _) _⟩
  case round =>
    obtain ⟨k, t0, rfl, rfl, hg, hA⟩ := hrel
    have y1 : (0 : Int) ≤ (k : Int) := by omega
    by_cases hlt : k < s.size
    · have y0 : (k : Int) < (s.size : Int) := by omega
      have ix := index_at s k hlt
      have hc := (s.get! k).toNat_lt
      have CS := C (s.get! k).toNat (by omega) (by omega)
      rw [smB_small] at CS
      have NX : Hid (vals (smL s (k + 1)) = vals (smL s k) ++ [.int .u8 (smB (s.get! k)).toNat]) := by
        show _ = _
        rw [smL_next s k hlt]
        exact List.map_append
      generalize (smB (s.get! k)).toNat = d at *
      generalize (s.get! k).toNat = c at *
      clear C hc
      go_wp2_with fail
      refine (CS _).mono ?_; rintro e w' ⟨rfl, rfl⟩
      go_wp2_with (at_builtin; refine put_one hi hz0 hz1 hz2 hA.out.1 (.int .u8 d) rfl (by omega) hA.out.2.size rfl _ _ rfl rfl rfl ?_)
      intro v' w3 hp
      have N : Aside (w3.ownsRow w.heap.size 5 1 v' (k + 1) (vals (smL s (k + 1))) ∧ Below w.heap.size w w3) := ⟨by rw [NX.out]; exact hp.own, hA.out.2.trans hp.below⟩
      clear hp
      go_wp2_with fail
      go_roundg (gk - 1)
      case measure => omega
      case rel => exact ⟨k + 1, v', rfl, by go_num, by omega, N.out⟩
    · have hk : k = s.size := by omega
      have y0 : ¬ (k : Int) < (s.size : Int) := by omega
      have O : wr.ownsRow w.heap.size 5 1 t0 (smL s k).length (vals (smL s k)) := by rw [smL_length s k (by omega)]; exact hA.out.1
      have cv := conv_vals O
      have V : Aside ((⟨(smL s k).toArray⟩ : ByteArray) = res) := by
        show _ = _
        rw [← hres.out, hk, smL_whole]; rfl
      generalize (⟨(smL s k).toArray⟩ : ByteArray) = q at *
      clear O hk
      go_wp2_with fail
      go_ret
      exact ⟨by rw [V.out]; rfl, hA.out.2⟩
end Go.Proofs.YtoilalffhmjhdaaGreatDoor.slow
/- The document's own cut: a piece of a text, from one character's place on, up to another one's. -/
set_option linter.unusedSimpArgs false
set_option linter.unusedVariables false
namespace Go.Proofs.YtoilalffhmjhdaaGreatDoor.subst
open Go.RowKit Go.Proofs.YtoilalffhmjhdaaGreatDoor.errs Go.Proofs.YtoilalffhmjhdaaGreatDoor.rows Go.Proofs.YtoilalffhmjhdaaGreatDoor.utf Go.Proofs.YtoilalffhmjhdaaGreatDoor.umath Go.Proofs.YtoilalffhmjhdaaGreatDoor.text Go.Proofs.YtoilalffhmjhdaaGreatDoor.ref Go.Proofs.YtoilalffhmjhdaaGreatDoor.glref Go.Proofs.YtoilalffhmjhdaaGreatDoor.gmath Go.Proofs.YtoilalffhmjhdaaGreatDoor.chars

def cutT (X : List Int) (i k : Nat) : ByteArray := frame.bytesOf (upto (piece X i k) (piece X i k).length)
theorem piece_get (X : List Int) (i k j : Nat) (h : j < (piece X i k).length) : (piece X i k).getD j 0 = X.getD (i + j) 0 := by
  unfold piece at h ⊢
  rw [List.length_take, List.length_drop] at h
  rw [List.getD_eq_getElem?_getD, List.getElem?_take_of_lt (by omega), List.getElem?_drop, List.getD_eq_getElem?_getD]
theorem piece_nums {X : List Int} {w : World} {b off cap : Nat} (i k : Nat) (hik : i ≤ k) (hk : k ≤ X.length) (hc : X.length ≤ cap) (hm : cap ≤ 9223372036854775807) (h : ∀ j, j < X.length → w.cell? ⟨b, off + j, none⟩ = some (.int .i64 (X.getD j 0))) : Nums w (.slice (some ⟨b, off + i, none⟩) (k - i) (cap - i)) (piece X i k) := by
  have hl := piece_length X i k hik hk
  refine ⟨_, cap - i, by rw [hl], by rw [hl]; omega, by omega, fun _ => ⟨b, off + i, rfl, fun j hj => ?_⟩⟩
  rw [piece_get X i k j hj, Nat.add_assoc]
  rw [hl] at hj
  exact h (i + j) (by omega)
theorem badAt_piece {X : List Int} (hr : ∀ j, j < X.length → right (X.getD j 0) = true) (i k : Nat) (hik : i ≤ k) (hk : k ≤ X.length) : (∀ j, j < (piece X i k).length → right ((piece X i k).getD j 0) = true) := fun j hj => by
  rw [piece_get X i k j hj]
  rw [piece_length X i k hik hk] at hj
  exact hr _ (by omega)
theorem conv_cells {w : World} {B : Nat} {v : Value} {l : List Int} (h : w.ownsRow B 5 1 v l.length (cellsOf l)) (hr : ∀ y ∈ l, 0 ≤ y ∧ y ≤ 255) : (convert 74 9 v).run Tryz.prog w = .ok (.string (frame.bytesOf l)) w := by
  have e : slow.vals (l.map fun z => UInt8.ofNat z.toNat) = cellsOf l := by
    unfold slow.vals cellsOf
    rw [List.map_map]
    refine List.map_congr_left fun z hz => ?_
    have := hr z hz
    show Value.int .u8 ((UInt8.ofNat z.toNat).toNat : Int) = Value.int .u8 z
    rw [UInt8.toNat_ofNat']
    congr 1
    omega
  have h2 : w.ownsRow B 5 1 v (l.map fun z => UInt8.ofNat z.toNat).length (slow.vals (l.map fun z => UInt8.ofNat z.toNat)) := by rw [List.length_map, e]; exact h
  exact slow.conv_vals h2
/-- A text's characters, as the document's Chars gives them. -/
def NumsF (w : World) (v : Value) (X : List Int) : Prop :=
  (v = .slice none 0 0 ∧ X = []) ∨ ∃ b off cap, v = .slice (some ⟨b, off, none⟩) X.length cap ∧ X.length ≤ cap ∧ cap ≤ 9223372036854775807 ∧ ∀ j, j < X.length → w.cell? ⟨b, off + j, none⟩ = some (.int .i64 (X.getD j 0))
theorem NumsF.below {w w' : World} {v : Value} {X : List Int} (h : NumsF w v X) (hb : Keeps w w') : NumsF w' v X := by
  rcases h with h | ⟨b, off, cap, rfl, h1, h2, h3⟩
  · exact .inl h
  · exact .inr ⟨b, off, cap, rfl, h1, h2, fun j hj => (hb.cell (p := ⟨b, off + j, none⟩) (lt_of_cell (h3 j hj))).trans (h3 j hj)⟩
theorem NumsF.nums {w : World} {v : Value} {X : List Int} (h : NumsF w v X) : Nums w v X := by
  rcases h with ⟨rfl, rfl⟩ | ⟨b, off, cap, rfl, h1, h2, h3⟩
  · exact ⟨none, 0, rfl, Nat.le_refl _, by omega, fun h => absurd h (Nat.not_lt_zero _)⟩
  · exact ⟨_, cap, rfl, h1, h2, fun _ => ⟨b, off, rfl, h3⟩⟩
theorem NumsF.form {w : World} {v : Value} {X : List Int} (h : NumsF w v X) : ∃ a cap, v = .slice a X.length cap ∧ X.length ≤ cap ∧ cap ≤ 9223372036854775807 := by
  rcases h with ⟨rfl, rfl⟩ | ⟨b, off, cap, rfl, h1, h2, h3⟩
  · exact ⟨none, 0, rfl, Nat.le_refl _, by omega⟩
  · exact ⟨_, cap, rfl, h1, h2⟩
set_option maxRecDepth 100000 in
set_option maxHeartbeats 2000000 in
theorem cut_any (X : List Int) (v : Value) (i k : Nat) (w : World) (hv : NumsF w v X) (hik : i ≤ k) (hk : k ≤ X.length) (hr : ∀ j, j < X.length → right (X.getD j 0) = true) (hz : X.length ≤ 1000000) :
    Calls Tryz.prog 81 #[v, .int .i64 i, .int .i64 k] w fun e w' => e = .returned (.string (cutT X i k)) ∧ Below w.heap.size w w' := by
  have BR := badAt_piece hr i k hik hk
  have BP := badAt_none BR
  have hpl := piece_length X i k hik hk
  have TR : Hid (∀ u, Nums w u (piece X i k) → Calls Tryz.prog 91 #[u] w fun e w' => ∃ v, e = .returned (.tuple #[v, .int .i64 (-1)]) ∧ Aside ((convert 74 9 v).run Tryz.prog w' = .ok (.string (cutT X i k)) w' ∧ Below w.heap.size w w')) := fun u hu => by
    have TR := text_ref (piece X i k) u w hu (by rw [hpl]; omega)
    rw [BP] at TR
    exact TR.mono fun e w' ⟨v, h1, h2⟩ => ⟨v, h1, conv_cells h2.out.1 (upto_range _ BR _), h2.out.2⟩
  have y0 : (0 : Int) ≤ (i : Int) := by omega
  have y1 : (i : Int) ≤ (k : Int) := by omega
  rcases hv with ⟨rfl, rfl⟩ | ⟨b, off, cap, rfl, h1, h2, hc⟩
  · obtain rfl : k = 0 := by simpa using hk
    obtain rfl : i = 0 := by omega
    have C := TR.out (.slice none 0 0) ⟨none, 0, by rw [hpl], by rw [hpl]; exact Nat.le_refl _, by omega, fun h => by rw [hpl] at h; exact absurd h (by decide)⟩
    generalize cutT [] 0 0 = q at *
    clear TR BR BP hpl hr
    go_enter Tryz.func81, Tryz.ntmps81
    go_wp2_with fail
    refine C.mono ?_; rintro e w1 ⟨v1, rfl, h⟩
    have cv := h.out.1
    clear C
    go_wp2_with fail
    go_ret
    exact ⟨rfl, h.out.2⟩
  · have y2 : (k : Int) ≤ (cap : Int) := by omega
    by_cases hic : i = cap
    · subst hic
      obtain rfl : k = i := by omega
      have C := TR.out (.slice (some ⟨b, off, none⟩) 0 0) ⟨_, 0, by rw [hpl, Nat.sub_self], by rw [hpl]; omega, by omega, fun h => by rw [hpl] at h; omega⟩
      generalize cutT X k k = q at *
      obtain ⟨n, hn⟩ : ∃ n, Hid (X.length = n) := ⟨_, rfl⟩
      rw [hn.out] at h1 hk ⊢
      clear TR BR BP hpl hr hc hz
      go_enter Tryz.func81, Tryz.ntmps81
      go_wp2_with fail
      refine C.mono ?_; rintro e w1 ⟨v1, rfl, h⟩
      have cv := h.out.1
      clear C
      go_wp2_with fail
      go_ret
      exact ⟨rfl, h.out.2⟩
    · have y3 : (i : Int) < (cap : Int) := by omega
      have C := TR.out _ (piece_nums i k hik hk h1 h2 hc)
      generalize cutT X i k = q at *
      obtain ⟨n, hn⟩ : ∃ n, Hid (X.length = n) := ⟨_, rfl⟩
      rw [hn.out] at h1 ⊢
      clear TR BR BP hpl hr hc hz hk
      go_enter Tryz.func81, Tryz.ntmps81
      go_wp2_with fail
      refine C.mono ?_; rintro e w1 ⟨v1, rfl, h⟩
      have cv := h.out.1
      clear C
      go_wp2_with fail
      go_ret
      exact ⟨rfl, h.out.2⟩
end Go.Proofs.YtoilalffhmjhdaaGreatDoor.subst
/- The document's own among: are so many characters in a class? -/
set_option linter.unusedSimpArgs false
set_option linter.unusedVariables false
namespace Go.Proofs.YtoilalffhmjhdaaGreatDoor.subst
open Go.RowKit Go.Proofs.YtoilalffhmjhdaaGreatDoor.errs Go.Proofs.YtoilalffhmjhdaaGreatDoor.rows Go.Proofs.YtoilalffhmjhdaaGreatDoor.utf Go.Proofs.YtoilalffhmjhdaaGreatDoor.umath Go.Proofs.YtoilalffhmjhdaaGreatDoor.text Go.Proofs.YtoilalffhmjhdaaGreatDoor.ref Go.Proofs.YtoilalffhmjhdaaGreatDoor.glref Go.Proofs.YtoilalffhmjhdaaGreatDoor.gmath Go.Proofs.YtoilalffhmjhdaaGreatDoor.chars

def letters : List UInt8 := rcSmall ++ rcGreat
/-- Is a character in a class? -/
def inCls (fold : Bool) (list : List UInt8) (c : Int) : Bool :=
  if 127 < c then false else if fold && letters.contains (UInt8.ofNat c.toNat) then (list.map slow.smB).contains (slow.smB (UInt8.ofNat c.toNat)) else list.contains (UInt8.ofNat c.toNat)
def amongB (fold : Bool) (X : List Int) (n size : Nat) (list : List UInt8) : Bool := (List.range size).all fun j => inCls fold list (X.getD (n + j) 0)
theorem among_no {fold : Bool} {X : List Int} {n size : Nat} {list : List UInt8} (j : Nat) (hj : j < size) (h : inCls fold list (X.getD (n + j) 0) = false) : amongB fold X n size list = false := by
  unfold amongB
  rw [List.all_eq_false]
  exact ⟨j, List.mem_range.2 hj, by rw [h]; decide⟩
theorem among_yes {fold : Bool} {X : List Int} {n size : Nat} {list : List UInt8} (h : ∀ j, j < size → inCls fold list (X.getD (n + j) 0) = true) : amongB fold X n size list = true := by
  unfold amongB
  rw [List.all_eq_true]
  exact fun j hj => h j (List.mem_range.1 hj)
theorem conv_byte (c : Int) (h0 : 0 ≤ c) (h1 : c ≤ 127) (w : World) : (convert 3 5 (.int .i64 c)).run Tryz.prog w = .ok (.int .u8 ((UInt8.ofNat c.toNat).toNat : Int)) w := by
  have e : ((UInt8.ofNat c.toNat).toNat : Int) = c := by rw [UInt8.toNat_ofNat']; omega
  rw [e]
  have hk : Tryz.prog.intKind 5 = .u8 := by kernel_rfl
  have h := run_convert_int (P := Tryz.prog) w 3 5 .i64 c (by kernel_rfl) (by rw [hk]; exact Tryz.underlying5)
  rw [hk, IntWalk.u8_in c ⟨by omega, by omega⟩] at h
  exact h

set_option maxRecDepth 100000 in
set_option maxHeartbeats 4000000 in
theorem among_any (fold : Bool) (X : List Int) (v : Value) (m size : Nat) (list : List UInt8) (w : World) (hv : NumsF w v X) (hm : m + size ≤ X.length) (h0 : ∀ j, 0 ≤ X.getD j 0) (hz : X.length ≤ 1000000) (hl : list.length ≤ 1000) :
    Calls Tryz.prog 64 #[v, .int .i64 m, .int .i64 size, .string (T list), .bool fold] w fun e w' => e = .returned (.bool (amongB fold X m size list)) ∧ Below w.heap.size w w' := by
  obtain ⟨res, hres⟩ : ∃ res, Hid (amongB fold X m size list = res) := ⟨_, rfl⟩
  rw [hres.out]
  obtain ⟨a, cap, rfl, h1, h2⟩ := hv.form
  have HV := Lib.hid hv
  obtain ⟨n, hn⟩ : ∃ n, Hid (X.length = n) := ⟨_, rfl⟩
  rw [hn.out] at h1 hm hz ⊢
  clear hv
  go_enter Tryz.func64, Tryz.ntmps64
  go_wp2_with fail
  go_loopg [11] size (fun g t wr => ∃ j : Nat, t = .int .i64 ((m + j : Nat) : Int) ∧ g + j = size ∧ Hid ((∀ j', j' < j → inCls fold list (X.getD (m + j') 0) = true) ∧ Below w.heap.size w wr))
  case atStart => exact ⟨0, rfl, rfl, (fun j hj => absurd hj (Nat.not_lt_zero _)), Below.refl _ _⟩
  case round =>
    obtain ⟨j, rfl, hg, hA⟩ := hrel
    have y0 : (0 : Int) ≤ ((m + j : Nat) : Int) := by omega
    by_cases hlt : j < size
    · have y1 : ((m + j : Nat) : Int) < (m : Int) + (size : Int) := by omega
      have y2 : ((m + j : Nat) : Int) < (n : Int) := by omega
      have hN := HV.out.below hA.out.2
      obtain ⟨b, off, cap', e', -, -, hc⟩ : ∃ b off cap', Value.slice a n cap = .slice (some ⟨b, off, none⟩) n cap' ∧ n ≤ cap' ∧ True ∧ ∀ j, j < n → wr.cell? ⟨b, off + j, none⟩ = some (.int .i64 (X.getD j 0)) := by
        rcases hN with ⟨e, e2⟩ | ⟨b, off, cap', e, q1, q2, q3⟩
        · exfalso
          have := hn.out
          rw [e2] at this
          have : 0 = n := this
          omega
        · rw [hn.out] at e q1 q3
          exact ⟨b, off, cap', e, q1, trivial, q3⟩
      simp only [Value.slice.injEq] at e'
      obtain ⟨rfl, -, rfl⟩ := e'
      have c0 := hc (m + j) (by omega)
      have hp := h0 (m + j)
      have IC : Hid (inCls fold list (X.getD (m + j) 0) = inCls fold list (X.getD (m + j) 0)) := rfl
      have NO : Hid (inCls fold list (X.getD (m + j) 0) = false → res = false) := fun h => hres.out.symm.trans (among_no j hlt h)
      have YES : Hid (inCls fold list (X.getD (m + j) 0) = true → ∀ w', Below w.heap.size w w' → (∀ j', j' < j + 1 → inCls fold list (X.getD (m + j') 0) = true) ∧ Below w.heap.size w w') := fun h w' hb => ⟨fun j' hj' => by
        rcases (show j' < j ∨ j' = j by omega) with q | rfl
        · exact hA.out.1 j' q
        · exact h, hb⟩
      have KE := Lib.hid hA.out.2
      clear hc hN hA IC
      generalize X.getD (m + j) 0 = c at *
      obtain ⟨i, hi⟩ : ∃ i : Nat, m + j = i := ⟨_, rfl⟩
      rw [hi] at y0 y1 y2 c0 ⊢
      by_cases hbig : 127 < c
      · have HR : Hid (res = false) := NO.out (by unfold inCls; rw [if_pos hbig])
        go_wp2_with fail
        go_ret
        exact ⟨by rw [HR.out]; rfl, KE.out⟩
      · have z0 : c ≤ 127 := by omega
        have cv := conv_byte c hp z0
        have EC : Hid (inCls fold list c = if fold && letters.contains (UInt8.ofNat c.toNat) then (list.map slow.smB).contains (slow.smB (UInt8.ofNat c.toNat)) else list.contains (UInt8.ofNat c.toNat)) := by
          show _ = _
          unfold inCls
          rw [if_neg hbig]
        have H1 : ∀ V, Calls Tryz.prog 37 #[.string (T list), .int .u8 ((UInt8.ofNat c.toNat).toNat : Int)] V fun e w' => e = .returned (.bool (list.contains (UInt8.ofNat c.toNat))) ∧ V = w' := fun V => rhas_any (T list) _ (by show list.length ≤ _; omega) V
        have HL : ∀ V, Calls Tryz.prog 37 #[.string ⟨#[97, 98, 99, 100, 101, 102, 103, 104, 105, 106, 107, 108, 109, 110, 111, 112, 113, 114, 115, 116, 117, 118, 119, 120, 121, 122, 65, 66, 67, 68, 69, 70, 71, 72, 73, 74, 75, 76, 77, 78, 79, 80, 81, 82, 83, 84, 85, 86, 87, 88, 89, 90]⟩, .int .u8 ((UInt8.ofNat c.toNat).toNat : Int)] V fun e w' => e = .returned (.bool (letters.contains (UInt8.ofNat c.toNat))) ∧ V = w' := fun V => rhas_any (T letters) _ (by decide) V
        have RL : ∀ V, Calls Tryz.prog 82 #[.string (T list)] V fun e w' => e = .returned (.string (T (list.map slow.smB))) ∧ Below V.heap.size V w' := fun V => slow.rlower_any (T list) (by show list.length ≤ _; omega) V
        have RS : ∀ V, Calls Tryz.prog 83 #[.int .u8 ((UInt8.ofNat c.toNat).toNat : Int)] V fun e w' => e = .returned (.int .u8 ((slow.smB (UInt8.ofNat c.toNat)).toNat : Int)) ∧ V = w' := fun V => by
          have := rsmall_any ((UInt8.ofNat c.toNat).toNat : Int) (by omega) (by have := (UInt8.ofNat c.toNat).toNat_lt; omega) V
          rwa [slow.smB_small] at this
        have H2 : ∀ V, Calls Tryz.prog 37 #[.string (T (list.map slow.smB)), .int .u8 ((slow.smB (UInt8.ofNat c.toNat)).toNat : Int)] V fun e w' => e = .returned (.bool ((list.map slow.smB).contains (slow.smB (UInt8.ofNat c.toNat)))) ∧ V = w' := fun V => rhas_any (T (list.map slow.smB)) _ (by show (list.map slow.smB).length ≤ _; rw [List.length_map]; omega) V
        generalize list.contains (UInt8.ofNat c.toNat) = b1 at *
        generalize letters.contains (UInt8.ofNat c.toNat) = b2 at *
        generalize (list.map slow.smB).contains (slow.smB (UInt8.ofNat c.toNat)) = b3 at *
        generalize (slow.smB (UInt8.ofNat c.toNat)).toNat = k3 at *
        generalize T (list.map slow.smB) = l3 at *
        generalize (UInt8.ofNat c.toNat).toNat = k1 at *
        clear hbig
        cases fold with
        | false =>
          have EC : Hid (inCls false list c = b1) := EC
          cases b1 with
          | true =>
            have NX := Lib.hid (YES.out EC.out _ KE.out)
            clear YES NO EC
            go_wp2_with fail
            refine (H1 _).mono ?_; rintro e w2 ⟨rfl, rfl⟩
            go_wp2_with fail
            go_roundg (gk - 1)
            case measure => omega
            case rel => exact ⟨j + 1, by go_num, by omega, NX⟩
          | false =>
            have HR : Hid (res = false) := NO.out EC.out
            clear YES NO EC
            go_wp2_with fail
            refine (H1 _).mono ?_; rintro e w2 ⟨rfl, rfl⟩
            go_wp2_with fail
            go_ret
            exact ⟨by rw [HR.out]; rfl, KE.out⟩
        | true =>
          cases b2 with
          | false =>
            have EC : Hid (inCls true list c = b1) := EC
            cases b1 with
            | true =>
              have NX := Lib.hid (YES.out EC.out _ KE.out)
              clear YES NO EC
              go_wp2_with fail
              refine (H1 _).mono ?_; rintro e w2 ⟨rfl, rfl⟩
              go_wp2_with fail
              refine (HL _).mono ?_; rintro e w2 ⟨rfl, rfl⟩
              go_wp2_with fail
              go_roundg (gk - 1)
              case measure => omega
              case rel => exact ⟨j + 1, by go_num, by omega, NX⟩
            | false =>
              have HR : Hid (res = false) := NO.out EC.out
              clear YES NO EC
              go_wp2_with fail
              refine (H1 _).mono ?_; rintro e w2 ⟨rfl, rfl⟩
              go_wp2_with fail
              refine (HL _).mono ?_; rintro e w2 ⟨rfl, rfl⟩
              go_wp2_with fail
              go_ret
              exact ⟨by rw [HR.out]; rfl, KE.out⟩
          | true =>
            have EC : Hid (inCls true list c = b3) := EC
            cases b3 with
            | true =>
              have NX := Lib.hid (YES.out EC.out)
              clear YES NO EC
              go_wp2_with fail
              refine (H1 _).mono ?_; rintro e w2 ⟨rfl, rfl⟩
              go_wp2_with fail
              refine (HL _).mono ?_; rintro e w2 ⟨rfl, rfl⟩
              go_wp2_with fail
              refine (RL _).mono ?_; rintro e w3 ⟨rfl, hb⟩
              have K3 := Lib.hid (NX.out w3 (KE.out.trans (hb.mono KE.out.size)))
              clear hb
              go_wp2_with fail
              refine (RS _).mono ?_; rintro e w4 ⟨rfl, rfl⟩
              go_wp2_with fail
              refine (H2 _).mono ?_; rintro e w4 ⟨rfl, rfl⟩
              go_wp2_with fail
              go_roundg (gk - 1)
              case measure => omega
              case rel => exact ⟨j + 1, by go_num, by omega, K3⟩
            | false =>
              have HR : Hid (res = false) := NO.out EC.out
              clear YES NO EC
              go_wp2_with fail
              refine (H1 _).mono ?_; rintro e w2 ⟨rfl, rfl⟩
              go_wp2_with fail
              refine (HL _).mono ?_; rintro e w2 ⟨rfl, rfl⟩
              go_wp2_with fail
              refine (RL _).mono ?_; rintro e w3 ⟨rfl, hb⟩
              have K3 := Lib.hid (KE.out.trans (hb.mono KE.out.size))
              clear hb
              go_wp2_with fail
              refine (RS _).mono ?_; rintro e w4 ⟨rfl, rfl⟩
              go_wp2_with fail
              refine (H2 _).mono ?_; rintro e w4 ⟨rfl, rfl⟩
              go_wp2_with fail
              go_ret
              exact ⟨by rw [HR.out]; rfl, K3.out⟩
    · obtain rfl : j = size := by omega
      have y1 : ¬ ((m + j : Nat) : Int) < (m : Int) + (j : Int) := by omega
      have HR : Hid (res = true) := hres.out.symm.trans (among_yes hA.out.1)
      have KE := Lib.hid hA.out.2
      clear hA
      go_wp2_with fail
      go_ret
      exact ⟨by rw [HR.out]; rfl, KE.out⟩
end Go.Proofs.YtoilalffhmjhdaaGreatDoor.subst
