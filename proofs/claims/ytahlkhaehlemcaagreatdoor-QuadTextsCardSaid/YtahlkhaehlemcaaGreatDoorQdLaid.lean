/- quad.Of, and quad.laid: the address of the parts that were read. -/
import Derived.Test.YtahlkhaehlemcaaGreatDoorQdFields
import Derived.Laws.CopyOwn
set_option linter.unusedSimpArgs false
set_option linter.unusedVariables false
namespace Go.Proofs.YtahlkhaehlemcaaGreatDoor.qlaid
open Go.RowKit Go.Proofs.YtahlkhaehlemcaaGreatDoor.errs Go.Proofs.YtahlkhaehlemcaaGreatDoor.qfields

theorem of_any (n : Int) (h0 : 0 ≤ n) (h1 : n < 4294967296) (w : World) :
    Calls Tryz.prog 42 #[.int .u32 n] w fun e w' => e = .returned (.agg #[.int .u8 (n / 16777216), .int .u8 (n / 65536 % 256), .int .u8 (n / 256 % 256), .int .u8 (n % 256)]) ∧ Below w.heap.size w w' := by
  go_enter Tryz.func42, Tryz.ntmps42
  go_wp2_with fail
  exact bodyPost_ret (v := .agg #[.int .u8 (n / 16777216), .int .u8 (n / 65536 % 256), .int .u8 (n / 256 % 256), .int .u8 (n % 256)]) (by simp [results, Tryz.results42, go_sem]) rfl ⟨rfl, (Below.refl _ _).alloc (Nat.le_refl _) _⟩

/-- Parts in a block: their places and their numbers. -/
def Par (w : World) (pb n : Nat) (f : Nat → Nat × Nat) : Prop := ∀ j, j < n → w.cell? ⟨pb, j * 2, none⟩ = some (.int .i64 (f j).1) ∧ w.cell? ⟨pb, j * 2 + 1, none⟩ = some (.int .u64 (f j).2)
theorem Par.below {w w' : World} {pb n : Nat} {f : Nat → Nat × Nat} (h : Par w pb n f) (hb : Keeps w w') : Par w' pb n f := fun j hj =>
  ⟨(hb.cell (p := ⟨pb, j * 2, none⟩) (lt_of_cell (h j hj).1)).trans (h j hj).1, (hb.cell (p := ⟨pb, j * 2 + 1, none⟩) (lt_of_cell (h j hj).2)).trans (h j hj).2⟩

inductive Out where
  | bad (k a : Nat)
  | good (a b c d : Nat)
/-- The place of the first part ahead of the last one that is no byte. -/
def over (f : Nat → Nat × Nat) : Nat → Nat → Option Nat
  | 0, _ => none
  | g + 1, j => if 255 < (f j).2 then some (f j).1 else over f g (j + 1)
theorem over_hit {f : Nat → Nat × Nat} {g j : Nat} (h : 255 < (f j).2) : over f (g + 1) j = some (f j).1 := by simp [over, h]
theorem over_on {f : Nat → Nat × Nat} {g j : Nat} (h : ¬ 255 < (f j).2) : over f (g + 1) j = over f g (j + 1) := by simp [over, h]
def pick (f : Nat → Nat × Nat) (k i : Nat) : Nat := if i < k then (f i).2 else (f k).2 / 256 ^ (3 - i) % 256
/-- The address of the parts, the last one of which is the k-th. -/
def laidOf (f : Nat → Nat × Nat) (k : Nat) : Out :=
  match over f k 0 with
  | some a => .bad 16 a
  | none => if 256 ^ (4 - k) ≤ (f k).2 then .bad 16 (f k).1 else .good (pick f k 0) (pick f k 1) (pick f k 2) (pick f k 3)

def noAddr (v : Value) : Value := .tuple #[.agg #[.int .u8 0, .int .u8 0, .int .u8 0, .int .u8 0], v]
def AddrOut (o : Out) (w : World) (e : Ending) (w' : World) : Prop :=
  match o with
  | .bad k a => Fell w e w' k a noAddr
  | .good a b c d => e = .returned (.tuple #[.agg #[.int .u8 a, .int .u8 b, .int .u8 c, .int .u8 d], .nilIface]) ∧ Below w.heap.size w w'

def bytesTo (f : Nat → Nat × Nat) (i : Nat) : List Value := (List.range i).map fun j => Value.int .u8 (f j).2
theorem bytesTo_succ (f : Nat → Nat × Nat) (i : Nat) : bytesTo f (i + 1) = bytesTo f i ++ [Value.int .u8 (f i).2] := by simp [bytesTo, List.range_succ]
theorem bytesTo_length (f : Nat → Nat × Nat) (i : Nat) : (bytesTo f i).length = i := by simp [bytesTo]
theorem infoByte : (Tryz.prog.info? 5).map (fun i => (i.zero, i.size, i.bytes)) = some (some (.int .u8 0), 1, 1) := by kernel_rfl
theorem sizeByte : (Tryz.prog.info? 5).map (·.size) = some 1 := by kernel_rfl
theorem own_row {w : World} {B n : Nat} {e : TypeId} {v : Value} {xs : List Value} (h : w.ownsRow B e 1 v n xs) :
    ∃ a cap, v = .slice a n cap ∧ (0 < n → ∃ g, a = some ⟨g, 0, none⟩ ∧ ∀ j, j < n → w.cell? ⟨g, j, none⟩ = xs[j]?) := by
  rcases h.2 with ⟨rfl, rfl⟩ | ⟨g, cap, cur, rfl, hB, hg, hn, hm, hs, ht⟩
  · exact ⟨none, 0, rfl, fun h => absurd h (by omega)⟩
  · exact ⟨_, cap, rfl, fun _ => ⟨g, rfl, fun j hj => h.cellAt j (by omega)⟩⟩
theorem cell_of_heap {w : World} {b : Nat} {cs : Array Value} {t : TypeId} {fr : Nat × Nat} (h : w.heap[b]? = some (.cells cs t fr)) (j : Nat) : w.cell? ⟨b, j, none⟩ = cs[j]? := by simp [World.cell?, h]

/-- The world when laid has laid its two boxes. -/
def box (w : World) (la ln : Int) : World := (w.alloc (.cells #[.int .i64 la, .int .u64 ln] 43)).alloc (.cells #[.int .u8 0, .int .u8 0, .int .u8 0, .int .u8 0] 24)
def Boxed (w W : World) (b : Nat) (la ln : Int) : Prop := W.cell? ⟨b, 0, none⟩ = some (.int .i64 la) ∧ W.cell? ⟨b, 1, none⟩ = some (.int .u64 ln) ∧ Cel W (b + 1) 0 (.int .u8 0) ∧ Cel W (b + 1) 1 (.int .u8 0) ∧ Cel W (b + 1) 2 (.int .u8 0) ∧ Cel W (b + 1) 3 (.int .u8 0) ∧ Below w.heap.size w W ∧ b + 1 < W.heap.size
theorem boxed (w : World) (la ln : Int) : Boxed w (box w la ln) w.heap.size la ln := by
  have e : (w.alloc (.cells #[.int .i64 la, .int .u64 ln] 43)).heap.size = w.heap.size + 1 := by simp
  refine ⟨?_, ?_, ?_, ?_, ?_, ?_, ?_, ?_⟩
  · unfold box; rw [World.cell?_alloc_lt _ _ _ (by simp), World.cell?_alloc_at _ _ _ _ rfl]; rfl
  · unfold box; rw [World.cell?_alloc_lt _ _ _ (by simp), World.cell?_alloc_at _ _ _ _ rfl]; rfl
  · rw [← e]; exact cel_new _ _ _ _ _ rfl
  · rw [← e]; exact cel_new _ _ _ _ _ rfl
  · rw [← e]; exact cel_new _ _ _ _ _ rfl
  · rw [← e]; exact cel_new _ _ _ _ _ rfl
  · exact ((Below.refl _ w).alloc (Nat.le_refl _) _).alloc (by simp) _
  · unfold box; simp
theorem Boxed.below {w W W' : World} {b : Nat} {la ln : Int} (h : Boxed w W b la ln) (hw : w.heap.size ≤ W.heap.size) (hb : Keeps W W') : Boxed w W' b la ln := by
  obtain ⟨h1, h2, h3, h4, h5, h6, h7, h8⟩ := h
  exact ⟨(hb.cell (p := ⟨b, 0, none⟩) (lt_of_cell h1)).trans h1, (hb.cell (p := ⟨b, 1, none⟩) (lt_of_cell h2)).trans h2, h3.below hb, h4.below hb, h5.below hb, h6.below hb, h7.trans (hb.out.mono hw), Nat.lt_of_lt_of_le h8 hb.out.size⟩
/-- The address is stored in the result's box. -/
def inBox (w : World) (b : Nat) (v0 v1 v2 v3 : Value) : World := (((w.setCell ⟨b, 0, none⟩ v0).setCell ⟨b, 1, none⟩ v1).setCell ⟨b, 2, none⟩ v2).setCell ⟨b, 3, none⟩ v3
theorem inBox_below {B b : Nat} {w W : World} {v0 v1 v2 v3 : Value} (h : Below B w W) (hb : B ≤ b) : Below B w (inBox W b v0 v1 v2 v3) := (((h.setCell (p := ⟨b, 0, none⟩) hb _).setCell (p := ⟨b, 1, none⟩) hb _).setCell (p := ⟨b, 2, none⟩) hb _).setCell (p := ⟨b, 3, none⟩) hb _
theorem inBox_fault {W : World} {k a : Int} {bb b : Nat} {inner v0 v1 v2 v3 : Value} (h : FaultAt W (.iface 56 (.pointer (some ⟨bb, 0, none⟩))) k a inner) (hb : b ≠ bb) : FaultAt (inBox W b v0 v1 v2 v3) (.iface 56 (.pointer (some ⟨bb, 0, none⟩))) k a inner :=
  (((h.away (p := ⟨b, 0, none⟩) hb _).away (p := ⟨b, 1, none⟩) hb _).away (p := ⟨b, 2, none⟩) hb _).away (p := ⟨b, 3, none⟩) hb _

/-- A copy into a new block of four bytes. -/
theorem copy_into {w0 w1 : World} (hb : Below w0.heap.size w0 w1) (a : Option Addr) (k cap : Nat) (hk : k ≤ 3) (v0 v1 v2 v3 : Value) (cs : List Value) (hl : cs.length = k)
    (hc : 0 < k → ∃ g, a = some ⟨g, 0, none⟩ ∧ ∀ j, j < k → w0.cell? ⟨g, j, none⟩ = cs[j]?) (h1 : ∀ v ∈ cs, v.oneCell' = true) :
    ∃ w2, (Builtin.copy_ #[75, 75] 3 #[.slice (some ⟨w1.heap.size, 0, none⟩) 4 4, .slice a k cap]).run Tryz.prog (w1.alloc (.cells #[v0, v1, v2, v3] 24)) = .ok (goInt k) w2 ∧
      Hid (w2.heap[w1.heap.size]? = some (.cells (splice [v0, v1, v2, v3] 0 cs).toArray 24 (0, 0))) ∧ Below w0.heap.size w0 w2 := by
  have hW : (w1.alloc (.cells #[v0, v1, v2, v3] 24)).heap[w1.heap.size]? = some (.cells [v0, v1, v2, v3].toArray 24 (0, 0)) := heap_alloc_new w1 _
  have hB : Below w0.heap.size w0 (w1.alloc (.cells #[v0, v1, v2, v3] 24)) := hb.alloc hb.size _
  by_cases h0 : k = 0
  · subst h0
    obtain rfl : cs = [] := List.eq_nil_of_length_eq_zero hl
    exact ⟨_, run_copy_none _ _ _ _ 5 _ _ _ _ _ _ Tryz.underlying75 sizeByte (by decide), hW, hB⟩
  · obtain ⟨g, rfl, hcc⟩ := hc (by omega)
    have hmin : Nat.min k 4 = k := Nat.min_eq_left (by omega)
    have hrun := run_copy_row (P := Tryz.prog) (w1.alloc (.cells #[v0, v1, v2, v3] 24)) 75 75 3 5 w1.heap.size 0 4 4 ⟨g, 0, none⟩ k cap _ _ cs Tryz.underlying75 sizeByte hW (by rw [hl, hmin]) (fun j v hj => by
      have hjk : j < k := by have := (List.getElem?_eq_some_iff.1 hj).1; omega
      have e := hcc j hjk
      rw [hj] at e
      rw [show (Addr.add ⟨g, 0, none⟩ j : Addr) = ⟨g, j, none⟩ by cases j <;> simp [Addr.add]]
      exact (hB.cell (p := ⟨g, j, none⟩) (lt_of_cell e)).trans e) (by rw [hl]; simp; omega) h1
    rw [hl] at hrun
    refine ⟨_, hrun, ?_, below_setRow hB hb.size _⟩
    show _ = _
    rw [setRow_heap _ w1.heap.size _ _ _ _ hW]
    simp [splice, hl]

set_option maxRecDepth 100000 in
set_option maxHeartbeats 8000000 in
theorem laid_any (pb k : Nat) (f : Nat → Nat × Nat) (w : World) (hk : k ≤ 3) (hp : Par w pb k f) (hf : (f k).2 < 18446744073709551616) (hl : ∀ j, j < k → (f j).2 < 18446744073709551616) :
    Calls Tryz.prog 19 #[.slice (some ⟨pb, 0, none⟩) k k, .agg #[.int .i64 (f k).1, .int .u64 (f k).2]] w fun e w' => AddrOut (laidOf f k) w e w' := by
  obtain ⟨res, hres⟩ : ∃ res, Hid (laidOf f k = res) := ⟨_, rfl⟩
  rw [hres.out]
  obtain ⟨i0, hi, hz0, hz1, hz2⟩ := info_parts infoByte
  obtain ⟨W, hW⟩ : ∃ W, W = box w (f k).1 (f k).2 := ⟨_, rfl⟩
  have BX : Boxed w W w.heap.size (f k).1 (f k).2 := by rw [hW]; exact boxed _ _ _
  unfold box at hW
  replace hW := Lib.hid hW
  have HP : Aside (Par W pb k f) := hp.below BX.2.2.2.2.2.2.1
  have HB : Aside (Boxed w W w.heap.size (f k).1 (f k).2) := BX
  have HL : Aside (∀ j, j < k → (f j).2 < 18446744073709551616) := hl
  clear BX hp hl
  go_enter Tryz.func19, Tryz.ntmps19
  go_wp2_with fail
  rw [← hW.out]
  go_loopg [6, 12] k (fun g v0 v1 wr => ∃ (i : Nat) (t0 : Value), t0 = v0 ∧ v1 = .int .i64 i ∧ g + i = k ∧ Aside ((match over f g i with | some a => Out.bad 16 a | none => if 256 ^ (4 - k) ≤ (f k).2 then .bad 16 (f k).1 else .good (pick f k 0) (pick f k 1) (pick f k 2) (pick f k 3)) = res ∧ wr.ownsRow W.heap.size 5 1 t0 i (bytesTo f i) ∧ Keeps W wr))
  case atStart => exact ⟨0, _, rfl, rfl, by omega, hres.out, World.ownsRow_nil W _ _ _, Keeps.refl _⟩
  case round =>
    clear hres
    obtain ⟨i, t0, rfl, rfl, hg, hA⟩ := hrel
    obtain ⟨a, cap, rfl, hcells⟩ := own_row hA.out.2.1
    have HX : Aside (Boxed w wr w.heap.size (f k).1 (f k).2) := HB.out.below HB.out.2.2.2.2.2.2.1.size hA.out.2.2
    cases gk with
    | zero =>
      obtain rfl : k = i := by omega
      have y0 : ¬ ((k : Int) < (k : Int)) := by omega
      have V := hA.out.1
      have V : Hid ((if 256 ^ (4 - k) ≤ (f k).2 then Out.bad 16 (f k).1 else .good (pick f k 0) (pick f k 1) (pick f k 2) (pick f k 3)) = res) := hA.out.1
      obtain ⟨c0, c1, r0, r1, r2, r3, hbel, hsz⟩ := HX.out
      have HR : Aside (Cel wr (w.heap.size + 1) 0 (.int .u8 0) ∧ Cel wr (w.heap.size + 1) 1 (.int .u8 0) ∧ Cel wr (w.heap.size + 1) 2 (.int .u8 0) ∧ Cel wr (w.heap.size + 1) 3 (.int .u8 0) ∧ Below w.heap.size w wr ∧ w.heap.size + 1 < wr.heap.size) := ⟨r0, r1, r2, r3, hbel, hsz⟩
      clear r0 r1 r2 r3 hbel hsz HX
      have HC : Aside (0 < k → ∃ g, a = some ⟨g, 0, none⟩ ∧ ∀ j, j < k → wr.cell? ⟨g, j, none⟩ = (bytesTo f k)[j]?) := hcells
      clear hcells
      rcases (show k = 0 ∨ k = 1 ∨ k = 2 ∨ k = 3 by omega) with rfl | rfl | rfl | rfl
      · obtain ⟨la, hla⟩ : ∃ la, la = ((f 0).1 : Int) := ⟨_, rfl⟩
        obtain ⟨ln, hln⟩ : ∃ ln, ln = ((f 0).2 : Int) := ⟨_, rfl⟩
        rw [← hla] at c0
        rw [← hln] at c1
        have y1 : 0 ≤ ln := by omega
        have y2 : ln < 18446744073709551616 := by omega
        by_cases hbig : 4294967296 ≤ (f 0).2
        · have y3 : ¬ ln < 4294967296 := by omega
          have y4 : (ln / 4294967296 == 0) = false := beq_eq_false_iff_ne.2 (by omega)
          have VV : Aside (res = .bad 16 (f 0).1) := V.out.symm.trans (if_pos (by simpa using hbig))
          have HE : Aside (la = ((f 0).1 : Int)) := hla
          clear hbig hla hln V
          go_wp2_with fail
          refine (fail_fell _ _ _).mono ?_; rintro e w1 ⟨bb, rfl, hF⟩
          obtain ⟨d0, z0⟩ := HR.out.1.below hF.out.2.2
          obtain ⟨d1, z1⟩ := HR.out.2.1.below hF.out.2.2
          obtain ⟨d2, z2⟩ := HR.out.2.2.1.below hF.out.2.2
          obtain ⟨d3, z3⟩ := HR.out.2.2.2.1.below hF.out.2.2
          have k2 : Aside (Below w.heap.size w w1 ∧ w.heap.size + 1 < bb) := ⟨HR.out.2.2.2.2.1.trans (hF.out.2.2.mono HR.out.2.2.2.2.1.size), Nat.lt_of_lt_of_le HR.out.2.2.2.2.2 hF.out.1⟩
          go_wp2_with fail
          rw [VV.out]
          show bodyPost _ _ (fun e w' => Fell w e w' (16 : Int) ((f 0).1 : Int) noAddr) _ _ _
          rw [← HE.out]
          exact bodyPost_ret (v := noAddr (.iface 56 (.pointer (some ⟨bb, 0, none⟩)))) (by simp [results, Tryz.results19, go_sem, d0, d1, d2, d3, noAddr]) rfl
            ⟨bb, rfl, by have := k2.out.2; omega, inBox_fault hF.out.2.1 (Nat.ne_of_lt k2.out.2), inBox_below k2.out.1 (by omega)⟩
        · have y3 : ln < 4294967296 := by omega
          have y4 : (ln / 4294967296 == 0) = true := beq_iff_eq.2 (by omega)
          have y5 : ln < 4294967296 := by omega
          have VV : Aside (res = .good (pick f 0 0) (pick f 0 1) (pick f 0 2) (pick f 0 3)) := V.out.symm.trans (if_neg (by simpa using hbig))
          have HE : Aside (ln = ((f 0).2 : Int) ∧ ∀ j, j < 0 → (f j).2 < 18446744073709551616) := ⟨hln, HL.out⟩
          have C := fun w => of_any ln y1 y5 w
          clear hbig hla hln V
          go_wp2_with fail
          refine (C _).mono ?_; rintro e w1 ⟨rfl, hb1⟩
          obtain ⟨w2, hrun, hh, hb2⟩ := copy_into hb1 a 0 cap (by decide) (.int .u8 (ln / 16777216)) (.int .u8 (ln / 65536 % 256)) (.int .u8 (ln / 256 % 256)) (.int .u8 (ln % 256)) (bytesTo f 0) (bytesTo_length f 0) HC.out (by intro v hv; simp only [bytesTo, List.mem_map] at hv; obtain ⟨j, -, rfl⟩ := hv; rfl)
          have e0 : w2.cell? ⟨w1.heap.size, 0, none⟩ = some (.int .u8 (ln / 16777216)) := (cell_of_heap hh.out 0).trans rfl
          have e1 : w2.cell? ⟨w1.heap.size, 1, none⟩ = some (.int .u8 (ln / 65536 % 256)) := (cell_of_heap hh.out 1).trans rfl
          have e2 : w2.cell? ⟨w1.heap.size, 2, none⟩ = some (.int .u8 (ln / 256 % 256)) := (cell_of_heap hh.out 2).trans rfl
          have e3 : w2.cell? ⟨w1.heap.size, 3, none⟩ = some (.int .u8 (ln % 256)) := (cell_of_heap hh.out 3).trans rfl
          obtain ⟨d0, z0⟩ := HR.out.1.below hb2
          obtain ⟨d1, z1⟩ := HR.out.2.1.below hb2
          obtain ⟨d2, z2⟩ := HR.out.2.2.1.below hb2
          obtain ⟨d3, z3⟩ := HR.out.2.2.2.1.below hb2
          have k2 : Aside (Below w.heap.size w w2) := HR.out.2.2.2.2.1.trans (hb2.mono HR.out.2.2.2.2.1.size)
          have hlt1 : w.heap.size + 1 < w1.heap.size := Nat.lt_of_lt_of_le HR.out.2.2.2.2.2 hb1.size
          go_wp2_with fail
          rw [VV.out]
          have p0 : ((pick f 0 0 : Nat) : Int) = ln / 16777216 := by unfold pick; rw [if_neg (by decide)]; have := HE.out.1; simp; omega
          have p1 : ((pick f 0 1 : Nat) : Int) = ln / 65536 % 256 := by unfold pick; rw [if_neg (by decide)]; have := HE.out.1; simp; omega
          have p2 : ((pick f 0 2 : Nat) : Int) = ln / 256 % 256 := by unfold pick; rw [if_neg (by decide)]; have := HE.out.1; simp; omega
          have p3 : ((pick f 0 3 : Nat) : Int) = ln % 256 := by unfold pick; rw [if_neg (by decide)]; have := HE.out.1; simp; omega
          refine bodyPost_ret (v := .tuple #[.agg #[.int .u8 (ln / 16777216), .int .u8 (ln / 65536 % 256), .int .u8 (ln / 256 % 256), .int .u8 (ln % 256)], .nilIface]) (by simp [results, Tryz.results19, go_sem, d0, d1, d2, d3]) rfl ?_
          refine ⟨?_, inBox_below k2.out (by omega)⟩
          rw [p0, p1, p2, p3]
      · obtain ⟨la, hla⟩ : ∃ la, la = ((f 1).1 : Int) := ⟨_, rfl⟩
        obtain ⟨ln, hln⟩ : ∃ ln, ln = ((f 1).2 : Int) := ⟨_, rfl⟩
        rw [← hla] at c0
        rw [← hln] at c1
        have y1 : 0 ≤ ln := by omega
        have y2 : ln < 18446744073709551616 := by omega
        by_cases hbig : 16777216 ≤ (f 1).2
        · have y3 : ¬ ln < 16777216 := by omega
          have y4 : (ln / 16777216 == 0) = false := beq_eq_false_iff_ne.2 (by omega)
          have VV : Aside (res = .bad 16 (f 1).1) := V.out.symm.trans (if_pos (by simpa using hbig))
          have HE : Aside (la = ((f 1).1 : Int)) := hla
          clear hbig hla hln V
          go_wp2_with fail
          refine (fail_fell _ _ _).mono ?_; rintro e w1 ⟨bb, rfl, hF⟩
          obtain ⟨d0, z0⟩ := HR.out.1.below hF.out.2.2
          obtain ⟨d1, z1⟩ := HR.out.2.1.below hF.out.2.2
          obtain ⟨d2, z2⟩ := HR.out.2.2.1.below hF.out.2.2
          obtain ⟨d3, z3⟩ := HR.out.2.2.2.1.below hF.out.2.2
          have k2 : Aside (Below w.heap.size w w1 ∧ w.heap.size + 1 < bb) := ⟨HR.out.2.2.2.2.1.trans (hF.out.2.2.mono HR.out.2.2.2.2.1.size), Nat.lt_of_lt_of_le HR.out.2.2.2.2.2 hF.out.1⟩
          go_wp2_with fail
          rw [VV.out]
          show bodyPost _ _ (fun e w' => Fell w e w' (16 : Int) ((f 1).1 : Int) noAddr) _ _ _
          rw [← HE.out]
          exact bodyPost_ret (v := noAddr (.iface 56 (.pointer (some ⟨bb, 0, none⟩)))) (by simp [results, Tryz.results19, go_sem, d0, d1, d2, d3, noAddr]) rfl
            ⟨bb, rfl, by have := k2.out.2; omega, inBox_fault hF.out.2.1 (Nat.ne_of_lt k2.out.2), inBox_below k2.out.1 (by omega)⟩
        · have y3 : ln < 16777216 := by omega
          have y4 : (ln / 16777216 == 0) = true := beq_iff_eq.2 (by omega)
          have y5 : ln < 4294967296 := by omega
          have VV : Aside (res = .good (pick f 1 0) (pick f 1 1) (pick f 1 2) (pick f 1 3)) := V.out.symm.trans (if_neg (by simpa using hbig))
          have HE : Aside (ln = ((f 1).2 : Int) ∧ ∀ j, j < 1 → (f j).2 < 18446744073709551616) := ⟨hln, HL.out⟩
          have C := fun w => of_any ln y1 y5 w
          clear hbig hla hln V
          go_wp2_with fail
          refine (C _).mono ?_; rintro e w1 ⟨rfl, hb1⟩
          obtain ⟨w2, hrun, hh, hb2⟩ := copy_into hb1 a 1 cap (by decide) (.int .u8 (ln / 16777216)) (.int .u8 (ln / 65536 % 256)) (.int .u8 (ln / 256 % 256)) (.int .u8 (ln % 256)) (bytesTo f 1) (bytesTo_length f 1) HC.out (by intro v hv; simp only [bytesTo, List.mem_map] at hv; obtain ⟨j, -, rfl⟩ := hv; rfl)
          have e0 : w2.cell? ⟨w1.heap.size, 0, none⟩ = some (.int .u8 ((f 0).2)) := (cell_of_heap hh.out 0).trans rfl
          have e1 : w2.cell? ⟨w1.heap.size, 1, none⟩ = some (.int .u8 (ln / 65536 % 256)) := (cell_of_heap hh.out 1).trans rfl
          have e2 : w2.cell? ⟨w1.heap.size, 2, none⟩ = some (.int .u8 (ln / 256 % 256)) := (cell_of_heap hh.out 2).trans rfl
          have e3 : w2.cell? ⟨w1.heap.size, 3, none⟩ = some (.int .u8 (ln % 256)) := (cell_of_heap hh.out 3).trans rfl
          obtain ⟨d0, z0⟩ := HR.out.1.below hb2
          obtain ⟨d1, z1⟩ := HR.out.2.1.below hb2
          obtain ⟨d2, z2⟩ := HR.out.2.2.1.below hb2
          obtain ⟨d3, z3⟩ := HR.out.2.2.2.1.below hb2
          have k2 : Aside (Below w.heap.size w w2) := HR.out.2.2.2.2.1.trans (hb2.mono HR.out.2.2.2.2.1.size)
          have hlt1 : w.heap.size + 1 < w1.heap.size := Nat.lt_of_lt_of_le HR.out.2.2.2.2.2 hb1.size
          go_wp2_with fail
          rw [VV.out]
          have p0 : ((pick f 1 0 : Nat) : Int) = (f 0).2 := by unfold pick; rw [if_pos (by decide)]
          have p1 : ((pick f 1 1 : Nat) : Int) = ln / 65536 % 256 := by unfold pick; rw [if_neg (by decide)]; have := HE.out.1; simp; omega
          have p2 : ((pick f 1 2 : Nat) : Int) = ln / 256 % 256 := by unfold pick; rw [if_neg (by decide)]; have := HE.out.1; simp; omega
          have p3 : ((pick f 1 3 : Nat) : Int) = ln % 256 := by unfold pick; rw [if_neg (by decide)]; have := HE.out.1; simp; omega
          refine bodyPost_ret (v := .tuple #[.agg #[.int .u8 ((f 0).2), .int .u8 (ln / 65536 % 256), .int .u8 (ln / 256 % 256), .int .u8 (ln % 256)], .nilIface]) (by simp [results, Tryz.results19, go_sem, d0, d1, d2, d3]) rfl ?_
          refine ⟨?_, inBox_below k2.out (by omega)⟩
          rw [p0, p1, p2, p3]
      · obtain ⟨la, hla⟩ : ∃ la, la = ((f 2).1 : Int) := ⟨_, rfl⟩
        obtain ⟨ln, hln⟩ : ∃ ln, ln = ((f 2).2 : Int) := ⟨_, rfl⟩
        rw [← hla] at c0
        rw [← hln] at c1
        have y1 : 0 ≤ ln := by omega
        have y2 : ln < 18446744073709551616 := by omega
        by_cases hbig : 65536 ≤ (f 2).2
        · have y3 : ¬ ln < 65536 := by omega
          have y4 : (ln / 65536 == 0) = false := beq_eq_false_iff_ne.2 (by omega)
          have VV : Aside (res = .bad 16 (f 2).1) := V.out.symm.trans (if_pos (by simpa using hbig))
          have HE : Aside (la = ((f 2).1 : Int)) := hla
          clear hbig hla hln V
          go_wp2_with fail
          refine (fail_fell _ _ _).mono ?_; rintro e w1 ⟨bb, rfl, hF⟩
          obtain ⟨d0, z0⟩ := HR.out.1.below hF.out.2.2
          obtain ⟨d1, z1⟩ := HR.out.2.1.below hF.out.2.2
          obtain ⟨d2, z2⟩ := HR.out.2.2.1.below hF.out.2.2
          obtain ⟨d3, z3⟩ := HR.out.2.2.2.1.below hF.out.2.2
          have k2 : Aside (Below w.heap.size w w1 ∧ w.heap.size + 1 < bb) := ⟨HR.out.2.2.2.2.1.trans (hF.out.2.2.mono HR.out.2.2.2.2.1.size), Nat.lt_of_lt_of_le HR.out.2.2.2.2.2 hF.out.1⟩
          go_wp2_with fail
          rw [VV.out]
          show bodyPost _ _ (fun e w' => Fell w e w' (16 : Int) ((f 2).1 : Int) noAddr) _ _ _
          rw [← HE.out]
          exact bodyPost_ret (v := noAddr (.iface 56 (.pointer (some ⟨bb, 0, none⟩)))) (by simp [results, Tryz.results19, go_sem, d0, d1, d2, d3, noAddr]) rfl
            ⟨bb, rfl, by have := k2.out.2; omega, inBox_fault hF.out.2.1 (Nat.ne_of_lt k2.out.2), inBox_below k2.out.1 (by omega)⟩
        · have y3 : ln < 65536 := by omega
          have y4 : (ln / 65536 == 0) = true := beq_iff_eq.2 (by omega)
          have y5 : ln < 4294967296 := by omega
          have VV : Aside (res = .good (pick f 2 0) (pick f 2 1) (pick f 2 2) (pick f 2 3)) := V.out.symm.trans (if_neg (by simpa using hbig))
          have HE : Aside (ln = ((f 2).2 : Int) ∧ ∀ j, j < 2 → (f j).2 < 18446744073709551616) := ⟨hln, HL.out⟩
          have C := fun w => of_any ln y1 y5 w
          clear hbig hla hln V
          go_wp2_with fail
          refine (C _).mono ?_; rintro e w1 ⟨rfl, hb1⟩
          obtain ⟨w2, hrun, hh, hb2⟩ := copy_into hb1 a 2 cap (by decide) (.int .u8 (ln / 16777216)) (.int .u8 (ln / 65536 % 256)) (.int .u8 (ln / 256 % 256)) (.int .u8 (ln % 256)) (bytesTo f 2) (bytesTo_length f 2) HC.out (by intro v hv; simp only [bytesTo, List.mem_map] at hv; obtain ⟨j, -, rfl⟩ := hv; rfl)
          have e0 : w2.cell? ⟨w1.heap.size, 0, none⟩ = some (.int .u8 ((f 0).2)) := (cell_of_heap hh.out 0).trans rfl
          have e1 : w2.cell? ⟨w1.heap.size, 1, none⟩ = some (.int .u8 ((f 1).2)) := (cell_of_heap hh.out 1).trans rfl
          have e2 : w2.cell? ⟨w1.heap.size, 2, none⟩ = some (.int .u8 (ln / 256 % 256)) := (cell_of_heap hh.out 2).trans rfl
          have e3 : w2.cell? ⟨w1.heap.size, 3, none⟩ = some (.int .u8 (ln % 256)) := (cell_of_heap hh.out 3).trans rfl
          obtain ⟨d0, z0⟩ := HR.out.1.below hb2
          obtain ⟨d1, z1⟩ := HR.out.2.1.below hb2
          obtain ⟨d2, z2⟩ := HR.out.2.2.1.below hb2
          obtain ⟨d3, z3⟩ := HR.out.2.2.2.1.below hb2
          have k2 : Aside (Below w.heap.size w w2) := HR.out.2.2.2.2.1.trans (hb2.mono HR.out.2.2.2.2.1.size)
          have hlt1 : w.heap.size + 1 < w1.heap.size := Nat.lt_of_lt_of_le HR.out.2.2.2.2.2 hb1.size
          go_wp2_with fail
          rw [VV.out]
          have p0 : ((pick f 2 0 : Nat) : Int) = (f 0).2 := by unfold pick; rw [if_pos (by decide)]
          have p1 : ((pick f 2 1 : Nat) : Int) = (f 1).2 := by unfold pick; rw [if_pos (by decide)]
          have p2 : ((pick f 2 2 : Nat) : Int) = ln / 256 % 256 := by unfold pick; rw [if_neg (by decide)]; have := HE.out.1; simp; omega
          have p3 : ((pick f 2 3 : Nat) : Int) = ln % 256 := by unfold pick; rw [if_neg (by decide)]; have := HE.out.1; simp; omega
          refine bodyPost_ret (v := .tuple #[.agg #[.int .u8 ((f 0).2), .int .u8 ((f 1).2), .int .u8 (ln / 256 % 256), .int .u8 (ln % 256)], .nilIface]) (by simp [results, Tryz.results19, go_sem, d0, d1, d2, d3]) rfl ?_
          refine ⟨?_, inBox_below k2.out (by omega)⟩
          rw [p0, p1, p2, p3]
      · obtain ⟨la, hla⟩ : ∃ la, la = ((f 3).1 : Int) := ⟨_, rfl⟩
        obtain ⟨ln, hln⟩ : ∃ ln, ln = ((f 3).2 : Int) := ⟨_, rfl⟩
        rw [← hla] at c0
        rw [← hln] at c1
        have y1 : 0 ≤ ln := by omega
        have y2 : ln < 18446744073709551616 := by omega
        by_cases hbig : 256 ≤ (f 3).2
        · have y3 : ¬ ln < 256 := by omega
          have y4 : (ln / 256 == 0) = false := beq_eq_false_iff_ne.2 (by omega)
          have VV : Aside (res = .bad 16 (f 3).1) := V.out.symm.trans (if_pos (by simpa using hbig))
          have HE : Aside (la = ((f 3).1 : Int)) := hla
          clear hbig hla hln V
          go_wp2_with fail
          refine (fail_fell _ _ _).mono ?_; rintro e w1 ⟨bb, rfl, hF⟩
          obtain ⟨d0, z0⟩ := HR.out.1.below hF.out.2.2
          obtain ⟨d1, z1⟩ := HR.out.2.1.below hF.out.2.2
          obtain ⟨d2, z2⟩ := HR.out.2.2.1.below hF.out.2.2
          obtain ⟨d3, z3⟩ := HR.out.2.2.2.1.below hF.out.2.2
          have k2 : Aside (Below w.heap.size w w1 ∧ w.heap.size + 1 < bb) := ⟨HR.out.2.2.2.2.1.trans (hF.out.2.2.mono HR.out.2.2.2.2.1.size), Nat.lt_of_lt_of_le HR.out.2.2.2.2.2 hF.out.1⟩
          go_wp2_with fail
          rw [VV.out]
          show bodyPost _ _ (fun e w' => Fell w e w' (16 : Int) ((f 3).1 : Int) noAddr) _ _ _
          rw [← HE.out]
          exact bodyPost_ret (v := noAddr (.iface 56 (.pointer (some ⟨bb, 0, none⟩)))) (by simp [results, Tryz.results19, go_sem, d0, d1, d2, d3, noAddr]) rfl
            ⟨bb, rfl, by have := k2.out.2; omega, inBox_fault hF.out.2.1 (Nat.ne_of_lt k2.out.2), inBox_below k2.out.1 (by omega)⟩
        · have y3 : ln < 256 := by omega
          have y4 : (ln / 256 == 0) = true := beq_iff_eq.2 (by omega)
          have y5 : ln < 4294967296 := by omega
          have VV : Aside (res = .good (pick f 3 0) (pick f 3 1) (pick f 3 2) (pick f 3 3)) := V.out.symm.trans (if_neg (by simpa using hbig))
          have HE : Aside (ln = ((f 3).2 : Int) ∧ ∀ j, j < 3 → (f j).2 < 18446744073709551616) := ⟨hln, HL.out⟩
          have C := fun w => of_any ln y1 y5 w
          clear hbig hla hln V
          go_wp2_with fail
          refine (C _).mono ?_; rintro e w1 ⟨rfl, hb1⟩
          obtain ⟨w2, hrun, hh, hb2⟩ := copy_into hb1 a 3 cap (by decide) (.int .u8 (ln / 16777216)) (.int .u8 (ln / 65536 % 256)) (.int .u8 (ln / 256 % 256)) (.int .u8 (ln % 256)) (bytesTo f 3) (bytesTo_length f 3) HC.out (by intro v hv; simp only [bytesTo, List.mem_map] at hv; obtain ⟨j, -, rfl⟩ := hv; rfl)
          have e0 : w2.cell? ⟨w1.heap.size, 0, none⟩ = some (.int .u8 ((f 0).2)) := (cell_of_heap hh.out 0).trans rfl
          have e1 : w2.cell? ⟨w1.heap.size, 1, none⟩ = some (.int .u8 ((f 1).2)) := (cell_of_heap hh.out 1).trans rfl
          have e2 : w2.cell? ⟨w1.heap.size, 2, none⟩ = some (.int .u8 ((f 2).2)) := (cell_of_heap hh.out 2).trans rfl
          have e3 : w2.cell? ⟨w1.heap.size, 3, none⟩ = some (.int .u8 (ln % 256)) := (cell_of_heap hh.out 3).trans rfl
          obtain ⟨d0, z0⟩ := HR.out.1.below hb2
          obtain ⟨d1, z1⟩ := HR.out.2.1.below hb2
          obtain ⟨d2, z2⟩ := HR.out.2.2.1.below hb2
          obtain ⟨d3, z3⟩ := HR.out.2.2.2.1.below hb2
          have k2 : Aside (Below w.heap.size w w2) := HR.out.2.2.2.2.1.trans (hb2.mono HR.out.2.2.2.2.1.size)
          have hlt1 : w.heap.size + 1 < w1.heap.size := Nat.lt_of_lt_of_le HR.out.2.2.2.2.2 hb1.size
          go_wp2_with fail
          rw [VV.out]
          have p0 : ((pick f 3 0 : Nat) : Int) = (f 0).2 := by unfold pick; rw [if_pos (by decide)]
          have p1 : ((pick f 3 1 : Nat) : Int) = (f 1).2 := by unfold pick; rw [if_pos (by decide)]
          have p2 : ((pick f 3 2 : Nat) : Int) = (f 2).2 := by unfold pick; rw [if_pos (by decide)]
          have p3 : ((pick f 3 3 : Nat) : Int) = ln % 256 := by unfold pick; rw [if_neg (by decide)]; have := HE.out.1; simp; omega
          refine bodyPost_ret (v := .tuple #[.agg #[.int .u8 ((f 0).2), .int .u8 ((f 1).2), .int .u8 ((f 2).2), .int .u8 (ln % 256)], .nilIface]) (by simp [results, Tryz.results19, go_sem, d0, d1, d2, d3]) rfl ?_
          refine ⟨?_, inBox_below k2.out (by omega)⟩
          rw [p0, p1, p2, p3]
    | succ g =>
      have hik : i < k := by omega
      have y0 : (i : Int) < (k : Int) := by omega
      have y1 : (0 : Int) ≤ (i : Int) := by omega
      obtain ⟨c0, c1⟩ := HP.out.below hA.out.2.2 i hik
      obtain ⟨x, hx⟩ : ∃ x, x = f i := ⟨_, rfl⟩
      rw [← hx] at c0 c1
      have hfi := HL.out i hik
      rw [← hx] at hfi
      by_cases hbig : 255 < x.2
      · have y3 : (255 : Int) < (x.2 : Int) := by omega
        have VV : Aside (res = .bad 16 x.1) := by
          have := hA.out.1
          rw [over_hit (by rw [← hx]; exact hbig), ← hx] at this
          exact this.symm
        obtain ⟨-, -, r0, r1, r2, r3, hbel, hsz⟩ := HX.out
        have HR : Aside (Cel wr (w.heap.size + 1) 0 (.int .u8 0) ∧ Cel wr (w.heap.size + 1) 1 (.int .u8 0) ∧ Cel wr (w.heap.size + 1) 2 (.int .u8 0) ∧ Cel wr (w.heap.size + 1) 3 (.int .u8 0) ∧ Below w.heap.size w wr ∧ w.heap.size + 1 < wr.heap.size) := ⟨r0, r1, r2, r3, hbel, hsz⟩
        clear r0 r1 r2 r3 hbel hsz HX hbig hx
        go_wp2_with fail
        refine (fail_fell _ _ _).mono ?_; rintro e w1 ⟨bb, rfl, hF⟩
        have hb1 : Below wr.heap.size wr w1 := ((Below.refl _ _).alloc (Nat.le_refl _) _).trans (hF.out.2.2.mono (by simp))
        obtain ⟨d0, z0⟩ := HR.out.1.below hb1
        obtain ⟨d1, z1⟩ := HR.out.2.1.below hb1
        obtain ⟨d2, z2⟩ := HR.out.2.2.1.below hb1
        obtain ⟨d3, z3⟩ := HR.out.2.2.2.1.below hb1
        have k2 : Aside (Below w.heap.size w w1 ∧ w.heap.size + 1 < bb) := ⟨HR.out.2.2.2.2.1.trans (hb1.mono HR.out.2.2.2.2.1.size), Nat.lt_of_lt_of_le HR.out.2.2.2.2.2 (Nat.le_trans (by simp) hF.out.1)⟩
        clear hb1
        go_wp2_with fail
        rw [VV.out]
        exact bodyPost_ret (v := noAddr (.iface 56 (.pointer (some ⟨bb, 0, none⟩)))) (by simp [results, Tryz.results19, go_sem, d0, d1, d2, d3, noAddr]) rfl
          ⟨bb, rfl, by have := k2.out.2; omega, inBox_fault hF.out.2.1 (Nat.ne_of_lt k2.out.2), inBox_below k2.out.1 (by omega)⟩
      · have y3 : (x.2 : Int) ≤ 255 := by omega
        have VV : Aside ((match over f g (i + 1) with | some a => Out.bad 16 a | none => if 256 ^ (4 - k) ≤ (f k).2 then .bad 16 (f k).1 else .good (pick f k 0) (pick f k 1) (pick f k 2) (pick f k 3)) = res) := by
          have := hA.out.1
          rw [over_on (by rw [← hx]; exact hbig)] at this
          exact this
        have HXX : Aside (x = f i) := hx
        have Q : Aside ((wr.alloc (.cells #[.int .i64 x.1, .int .u64 x.2] 43)).ownsRow W.heap.size 5 1 (.slice a i cap) i (bytesTo f i) ∧ Keeps W (wr.alloc (.cells #[.int .i64 x.1, .int .u64 x.2] 43))) := ⟨hA.out.2.1.alloc _, hA.out.2.2.step (keeps_new _ _)⟩
        clear hbig hx HX hcells
        go_wp2_with (at_builtin; refine wpList_append_own _ rfl _ _ 75 rfl W.heap.size 5 i0 (.int .u8 0) 1 1 Tryz.underlying75 hi hz0 hz1 hz2 rfl (by decide) (.slice a i cap) i (bytesTo f i) rfl (Q.out.1.alloc _) _ 1 1 [.int .u8 x.2] rfl rfl ?c1 ?c2 ?c3 ?c4 ?c5 ?_)
        case c1 =>
          intro j u hj
          obtain rfl : j = 0 := by
            have := (List.getElem?_eq_some_iff.1 hj).1
            simpa using this
          simp only [Addr.add, Nat.zero_add, ↓reduceIte, ite_self]
          rw [World.cell?_alloc_at _ _ _ _ (by simp)]
          simpa using hj
        case c2 => intro u hu; simp at hu; subst hu; rfl
        case c3 => unfold maxLen; omega
        case c4 => omega
        case c5 => have := Q.out.2.size; simp at this ⊢; omega
        intro v' w3 hown' hgrow _
        have N : Aside (w3.ownsRow W.heap.size 5 1 v' (i + 1) (bytesTo f (i + 1)) ∧ Keeps W w3) := by
          refine ⟨?_, ?_⟩
          · rw [bytesTo_succ, ← HXX.out]
            exact hown'
          · exact (Q.out.2.out.alloc Q.out.2.out.size _).grown hgrow (by have := Q.out.2.out.size; simp at this ⊢; omega) (fun q hq => (Q.out.1.lt q hq).1)
        clear hown' hgrow
        go_wp2_with fail
        go_roundg g
        case measure => omega
        case rel => exact ⟨i + 1, v', rfl, rfl, by omega, VV.out, N.out⟩
end Go.Proofs.YtahlkhaehlemcaaGreatDoor.qlaid
