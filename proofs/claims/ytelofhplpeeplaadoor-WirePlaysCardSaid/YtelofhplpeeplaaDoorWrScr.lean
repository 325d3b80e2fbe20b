/- Words for the frame of the laws on scripts: what a slice of calls that came in is, and how long its texts may be. -/
import Derived.Test.YtelofhplpeeplaaDoorWrGood
import Derived.Deep.Slices
import Derived.OpenShut
import Derived.ChangeShapes
import Derived.ChangeArms
import Derived.SizedLaws
set_option linter.unusedSimpArgs false
set_option linter.unusedVariables false
namespace Go.Proofs.YtelofhplpeeplaaDoor.wire
open Go.RowKit Go.ChangeShapes Go.WideShapes Go.Deep

theorem mem_all {H : Type} {P : Program} {e : TypeId} : ∀ {l : List (DataW H)} {d : DataW H} {n : Nat}, d ∈ l → n ∈ d.weights P e → n ∈ DataW.weightsAll P e l
  | [], d, n, h, _ => by cases h
  | x :: l, d, n, h, hn => by
    unfold DataW.weightsAll
    rcases List.mem_cons.1 h with rfl | h
    · exact List.mem_append.2 (.inl hn)
    · exact List.mem_append.2 (.inr (mem_all h hn))
theorem mem_slice {H : Type} {P : Program} {t e : TypeId} (ht : P.underlying t = some (.slice e)) {l s : List (DataW H)} {d : DataW H} {n : Nat} (h : d ∈ l) (hn : n ∈ d.weights P e) : n ∈ (DataW.slice l s).weights P t := by
  simp only [DataW.weights, ht]
  exact List.mem_cons_of_mem _ (List.mem_append.2 (.inl (mem_all h hn)))

/-- A text's length as a weight. -/
theorem text_weight {H : Type} {P : Program} (t : TypeId) (s : ByteArray) : s.size ∈ (DataW.lit (H := H) (.string s.data.toList)).weights P t := by
  simp only [DataW.weights, List.mem_singleton]
  show s.data.size = _
  simp

section
variable {H : Type} {en : TypeId × Value → H} {W : World} {base : Nat} {spare : Nat → Bool} {held : Bool}
theorem open_request {fuel : Nat} {cs : List Value} {x : DataW H × List MemPlace} (hf : DataW.trod en Tryd.prog W base spare held fuel 45 cs = some x) :
    ∃ r : Rq, cs = enc6 r ∧ r.app.size ∈ x.1.weights Tryd.prog 45 ∧ r.text.size ∈ x.1.weights Tryd.prog 45 ∧ r.url.size ∈ x.1.weights Tryd.prog 45 := by
  have hc6 : Tryd.prog.cellsOf 45 = 6 := by kernel_rfl
  have hc2 : Tryd.prog.cellsOf 43 = 2 := by kernel_rfl
  have hs1 : Tryd.prog.cellsOf 9 = 1 := by kernel_rfl
  have hb1 : Tryd.prog.cellsOf 4 = 1 := by kernel_rfl
  have hi1 : Tryd.prog.cellsOf 3 = 1 := by kernel_rfl
  have hu1 : Tryd.prog.cellsOf 22 = 1 := by kernel_rfl
  obtain ⟨ys, n', -, rfl, hlen, hyl, hg⟩ := DataW.trod_struct Tryd.underlying45 hf
  rw [hc6] at hlen
  have hyl : ys.length = 5 := hyl
  obtain ⟨v0, v1, v2, v3, v4, v5, rfl⟩ : ∃ v0 v1 v2 v3 v4 v5, cs = [v0, v1, v2, v3, v4, v5] := by
    clear hf hg
    rcases cs with _ | ⟨v0, _ | ⟨v1, _ | ⟨v2, _ | ⟨v3, _ | ⟨v4, _ | ⟨v5, _ | ⟨v6, t⟩⟩⟩⟩⟩⟩⟩ <;> first | exact ⟨_, _, _, _, _, _, rfl⟩ | (simp at hlen)
  obtain ⟨y0, y1, y2, y3, y4, rfl⟩ : ∃ y0 y1 y2 y3 y4, ys = [y0, y1, y2, y3, y4] := by
    clear hf hg
    rcases ys with _ | ⟨y0, _ | ⟨y1, _ | ⟨y2, _ | ⟨y3, _ | ⟨y4, _ | ⟨y5, t⟩⟩⟩⟩⟩⟩ <;> first | exact ⟨_, _, _, _, _, rfl⟩ | (simp at hyl)
  have g0 : DataW.trod en Tryd.prog W base spare held n' 22 (([v0, v1, v2, v3, v4, v5].drop 0).take (Tryd.prog.cellsOf 22)) = some y0 := hg 0 _ rfl
  have g1 : DataW.trod en Tryd.prog W base spare held n' 9 (([v0, v1, v2, v3, v4, v5].drop 1).take (Tryd.prog.cellsOf 9)) = some y1 := hg 1 _ rfl
  have g2 : DataW.trod en Tryd.prog W base spare held n' 4 (([v0, v1, v2, v3, v4, v5].drop 2).take (Tryd.prog.cellsOf 4)) = some y2 := hg 2 _ rfl
  have g3 : DataW.trod en Tryd.prog W base spare held n' 43 (([v0, v1, v2, v3, v4, v5].drop 3).take (Tryd.prog.cellsOf 43)) = some y3 := hg 3 _ rfl
  have g4 : DataW.trod en Tryd.prog W base spare held n' 9 (([v0, v1, v2, v3, v4, v5].drop 5).take (Tryd.prog.cellsOf 9)) = some y4 := hg 4 _ rfl
  rw [hu1] at g0
  rw [hs1] at g1 g4
  rw [hb1] at g2
  rw [hc2] at g3
  obtain ⟨n0, e0, -, w0⟩ := DataW.trod_int Tryd.underlying22 g0
  obtain ⟨n1, e1, rfl, -⟩ := DataW.trod_string Tryd.underlying9 g1
  obtain ⟨n2, e2, -⟩ := DataW.trod_bool Tryd.underlying4 g2
  obtain ⟨n4, e4, rfl, -⟩ := DataW.trod_string Tryd.underlying9 g4
  obtain ⟨zs, n'', -, rfl, -, hzl, hh⟩ := DataW.trod_struct Tryd.underlying43 g3
  have hzl : zs.length = 2 := hzl
  obtain ⟨z0, z1, rfl⟩ : ∃ z0 z1, zs = [z0, z1] := by
    clear hh g3 hf hg
    rcases zs with _ | ⟨z0, _ | ⟨z1, _ | ⟨z2, t⟩⟩⟩ <;> first | exact ⟨_, _, rfl⟩ | (simp at hzl)
  have k0 : DataW.trod en Tryd.prog W base spare held n'' 3 (((([v0, v1, v2, v3, v4, v5].drop 3).take 2).drop 0).take (Tryd.prog.cellsOf 3)) = some z0 := hh 0 _ rfl
  have k1 : DataW.trod en Tryd.prog W base spare held n'' 9 (((([v0, v1, v2, v3, v4, v5].drop 3).take 2).drop 1).take (Tryd.prog.cellsOf 9)) = some z1 := hh 1 _ rfl
  rw [hi1] at k0
  rw [hs1] at k1
  obtain ⟨m0, q0, -, -⟩ := DataW.trod_int Tryd.underlying3 k0
  obtain ⟨m1, q1, rfl, -⟩ := DataW.trod_string Tryd.underlying9 k1
  have e0 : v0 = .int .u64 n0 := by simpa using e0
  have e1 : v1 = .string n1 := by simpa using e1
  have e2 : v2 = .bool n2 := by simpa using e2
  have e4 : v5 = .string n4 := by simpa using e4
  have q0 : v3 = .int .i64 m0 := by simpa using q0
  have q1 : v4 = .string m1 := by simpa using q1
  have hn0 : ((n0.toNat : Nat) : Int) = n0 := by
    have := w0
    have mn : IntKind.u64.min = 0 := by decide
    simp [Lit.wf, mn] at this
    omega
  refine ⟨⟨n0.toNat, n1, n2, m0, m1, n4, 0⟩, ?_, ?_, ?_, ?_⟩
  · rw [e0, e1, e2, e4, q0, q1]
    simp only [enc6, hn0]
  · simp [DataW.weights, DataW.weightsEach, Tryd.underlying45]
  · simp [DataW.weights, DataW.weightsEach, Tryd.underlying45, Tryd.underlying43]
  · simp [DataW.weights, DataW.weightsEach, Tryd.underlying45]
theorem open_call {fuel : Nat} {cs : List Value} {x : DataW H × List MemPlace} (hf : DataW.trod en Tryd.prog W base spare held fuel 47 cs = some x) :
    ∃ o : OpR, cs = [.int .i64 o.kind, .int .u64 (o.tick : Int)] ++ enc6 o.r ∧ o.r.app.size ∈ x.1.weights Tryd.prog 47 ∧ o.r.text.size ∈ x.1.weights Tryd.prog 47 ∧ o.r.url.size ∈ x.1.weights Tryd.prog 47 := by
  have hc8 : Tryd.prog.cellsOf 47 = 8 := by kernel_rfl
  have hc6 : Tryd.prog.cellsOf 45 = 6 := by kernel_rfl
  have hi1 : Tryd.prog.cellsOf 3 = 1 := by kernel_rfl
  have hu1 : Tryd.prog.cellsOf 22 = 1 := by kernel_rfl
  obtain ⟨ys, n', -, rfl, hlen, hyl, hg⟩ := DataW.trod_struct Tryd.underlying47 hf
  rw [hc8] at hlen
  have hyl : ys.length = 3 := hyl
  obtain ⟨v0, v1, t, rfl⟩ : ∃ v0 v1 t, cs = v0 :: v1 :: t := by
    clear hf hg
    rcases cs with _ | ⟨v0, _ | ⟨v1, t⟩⟩ <;> first | exact ⟨_, _, _, rfl⟩ | (simp at hlen)
  have ht6 : t.length = 6 := by simp at hlen; omega
  obtain ⟨y0, y1, y2, rfl⟩ : ∃ y0 y1 y2, ys = [y0, y1, y2] := by
    clear hf hg
    rcases ys with _ | ⟨y0, _ | ⟨y1, _ | ⟨y2, _ | ⟨y3, t⟩⟩⟩⟩ <;> first | exact ⟨_, _, _, rfl⟩ | (simp at hyl)
  have g0 : DataW.trod en Tryd.prog W base spare held n' 3 (((v0 :: v1 :: t).drop 0).take (Tryd.prog.cellsOf 3)) = some y0 := hg 0 _ rfl
  have g1 : DataW.trod en Tryd.prog W base spare held n' 22 (((v0 :: v1 :: t).drop 1).take (Tryd.prog.cellsOf 22)) = some y1 := hg 1 _ rfl
  have g2 : DataW.trod en Tryd.prog W base spare held n' 45 (((v0 :: v1 :: t).drop 2).take (Tryd.prog.cellsOf 45)) = some y2 := hg 2 _ rfl
  rw [hi1] at g0
  rw [hu1] at g1
  rw [hc6] at g2
  obtain ⟨n0, e0, -, -⟩ := DataW.trod_int Tryd.underlying3 g0
  obtain ⟨n1, e1, -, w1⟩ := DataW.trod_int Tryd.underlying22 g1
  obtain ⟨r, e2, q1, q2, q3⟩ := open_request g2
  have e0 : v0 = .int .i64 n0 := by simpa using e0
  have e1 : v1 = .int .u64 n1 := by simpa using e1
  have e2 : t = enc6 r := by
    rw [← e2]
    simp only [List.drop_succ_cons, List.drop_zero]
    exact (List.take_of_length_le (by omega)).symm
  have hn1 : ((n1.toNat : Nat) : Int) = n1 := by
    have := w1
    have mn : IntKind.u64.min = 0 := by decide
    simp [Lit.wf, mn] at this
    omega
  have up : ∀ n, n ∈ y2.1.weights Tryd.prog 45 → n ∈ (DataW.agg [y0.1, y1.1, y2.1]).weights Tryd.prog 47 := fun n hn => by
    simp only [DataW.weights, DataW.weightsEach, Tryd.underlying47, List.map_cons, List.map_nil, List.mem_append]
    exact .inr (.inr (.inl hn))
  refine ⟨⟨n0, n1.toNat, r⟩, ?_, up _ q1, up _ q2, up _ q3⟩
  rw [e0, e1, e2]
  simp only [hn1]
  rfl

theorem open_script {a : Option Addr} {len cap : Nat} {d : DataW H} {p : List MemPlace} (h : DataW.Trod en Tryd.prog W base spare held 34 (.slice a len cap) d p) {B : Nat} (hw : ∀ n ∈ d.weights Tryd.prog 34, n ≤ B) :
    ∃ f : Nat → OpR, IsScr W a len cap f ∧ ∀ i, i < len → (f i).r.app.size ≤ B ∧ (f i).r.text.size ≤ B ∧ (f i).r.url.size ≤ B := by
  obtain ⟨fuel, hf⟩ := h
  have hc8 : Tryd.prog.cellsOf 47 = 8 := by kernel_rfl
  rcases open_slice Tryd.underlying34 hf with ⟨hcs, -⟩ | ⟨x, l, c, m, n, D, Pl, hcs, -, hl, hm, hmm, hx, hi⟩
  · simp [Value.cells] at hcs
    obtain ⟨rfl, rfl, rfl⟩ := hcs
    exact ⟨fun _ => ⟨0, 0, noRq⟩, ⟨Nat.le_refl _, by omega, fun h => absurd h (by decide)⟩, fun i hi => absurd hi (Nat.not_lt_zero _)⟩
  · simp [Value.cells] at hcs
    obtain ⟨rfl, rfl, rfl⟩ := hcs
    have hd : d = .slice ((List.range len).map D) ((List.range (m - len)).map fun j => D (len + j)) := (Prod.mk.inj hx).1
    have hlm : len ≤ m := by rw [hmm]; split <;> omega
    have each : ∀ i, i < len → ∃ o : OpR, (∀ j u, ([.int .i64 o.kind, .int .u64 (o.tick : Int)] ++ enc6 o.r)[j]? = some u → W.cell? (x.add (i * 8 + j)) = some u) ∧ o.r.app.size ≤ B ∧ o.r.text.size ≤ B ∧ o.r.url.size ≤ B := fun i hil => by
      obtain ⟨cs', h1, h2⟩ := hi i (by omega)
      rw [hc8] at h1
      obtain ⟨-, h3, h4⟩ := World.cells?_some h1
      obtain ⟨o, rfl, q1, q2, q3⟩ := open_call h2
      have up : ∀ k, k ∈ (D i).weights Tryd.prog 47 → k ≤ B := fun k hk => hw k (by
        rw [hd]
        exact mem_slice Tryd.underlying34 (List.mem_map.2 ⟨i, List.mem_range.2 hil, rfl⟩) hk)
      refine ⟨o, fun j u hu => ?_, up _ q1, up _ q2, up _ q3⟩
      have hj : j < 8 := (List.getElem?_eq_some_iff.1 hu).1
      rw [← add_add, h4 j hj]
      exact hu
    refine ⟨fun i => if h : i < len then (each i h).choose else ⟨0, 0, noRq⟩, ⟨hl, by unfold maxLen at hm; omega, fun h0 => ?_⟩, fun i hil => ?_⟩
    · have c0 := (each 0 h0).choose_spec.1 0 _ rfl
      obtain ⟨b, off, spot⟩ := x
      have hsp : spot = none := by
        cases spot with
        | none => rfl
        | some t => simp [World.cell?, Addr.add] at c0; split at c0 <;> simp at c0
      subst hsp
      refine ⟨b, off, rfl, fun i hil => ?_⟩
      simp only [hil, dif_pos]
      have q := (each i hil).choose_spec.1
      generalize (each i hil).choose = o at q
      have ad : ∀ j, (Addr.add ⟨b, off, none⟩ (i * 8 + j) : Addr) = ⟨b, off + i * 8 + j, none⟩ := fun j => by simp [Addr.add, Nat.add_assoc]
      have q' : ∀ j u, ([.int .i64 o.kind, .int .u64 (o.tick : Int)] ++ enc6 o.r)[j]? = some u → W.cell? ⟨b, off + i * 8 + j, none⟩ = some u := fun j u hu => by rw [← ad]; exact q j u hu
      exact ⟨q' 0 _ rfl, q' 1 _ rfl, q' 2 _ rfl, q' 3 _ rfl, q' 4 _ rfl, q' 5 _ rfl, q' 6 _ rfl, q' 7 _ rfl⟩
    · simp only [hil, dif_pos]
      exact (each i hil).choose_spec.2
end
end Go.Proofs.YtelofhplpeeplaaDoor.wire
