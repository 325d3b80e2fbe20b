/- Words for the frame of layer 28's law on other URLs and on words: what a slice of texts, and an answer, that came in are; their texts together are no more than the bulk. -/
import Derived.Test.YtmgdkdohadaknaaDoorRows
import Derived.Test.YtmgdkdohadaknaaDoorPkWords
import Derived.Deep.Slices
import Derived.OpenShut
import Derived.ChangeShapes
import Derived.ChangeArms
set_option linter.unusedSimpArgs false
set_option linter.unusedVariables false
namespace Go.Proofs.YtmgdkdohadaknaaDoor.pick
open Go.RowKit Go.ChangeShapes Go.WideShapes Go.Deep Go.Proofs.YtmgdkdohadaknaaDoor.errs

theorem bulk_texts {H : Type} : ∀ l : List ByteArray, Rows.uptoBulkAll (l.map fun s => DataW.lit (H := H) (.string s.data.toList)) = (tailL l).length
  | [] => rfl
  | s :: l => by
    have := bulk_texts (H := H) l
    rw [List.map_cons]
    simp only [Rows.uptoBulkAll, Rows.uptoBulk]
    rw [this]
    have e : tailL (s :: l) = (32 :: s.data.toList) ++ tailL l := by simp [tailL]
    rw [e, List.length_append, List.length_cons]
theorem tail_each {l : List ByteArray} {s : ByteArray} (h : s ∈ l) : s.size ≤ (tailL l).length := by
  induction l with
  | nil => cases h
  | cons x l ih =>
    have e : tailL (x :: l) = (32 :: x.data.toList) ++ tailL l := by simp [tailL]
    rw [e, List.length_append, List.length_cons, show x.data.toList.length = x.size from Array.length_toList]
    rcases List.mem_cons.1 h with rfl | h
    · omega
    · have := ih h; omega

section
variable {H : Type} {en : TypeId × Value → H} {W : World} {base : Nat} {spare : Nat → Bool} {held : Bool}
theorem open_texts {fuel : Nat} {cs : List Value} {x : DataW H × List MemPlace} (hf : DataW.trod en Tryd.prog W base spare held fuel 27 cs = some x) :
    ∃ (a : Option Addr) (n c : Nat) (l : List ByteArray), cs = [.slice a n c] ∧ ((a = none → c = 0) ∧ StrsIn W (.slice a n c) l) ∧ (tailL l).length ≤ Rows.uptoBulk x.1 := by
  have hs1 : Tryd.prog.cellsOf 9 = 1 := by kernel_rfl
  rcases open_slice Tryd.underlying27 hf with ⟨rfl, -⟩ | ⟨ad, len, cap, m, n, D, Pl, rfl, -, hl, hm, hmm, hx, hi⟩
  · exact ⟨none, 0, 0, [], rfl, ⟨fun _ => rfl, strsIn_nil W⟩, Nat.zero_le _⟩
  · have hlm : len ≤ m := by rw [hmm]; split <;> omega
    have each : ∀ i, i < len → ∃ s : ByteArray, W.cell? (ad.add i) = some (.string s) ∧ D i = .lit (.string s.data.toList) := fun i hil => by
      obtain ⟨cs', h1, h2⟩ := hi i (by omega)
      rw [hs1] at h1
      obtain ⟨-, h3, h4⟩ := World.cells?_some h1
      obtain ⟨s, e0, e1, -⟩ := DataW.trod_string Tryd.underlying9 h2
      subst e0
      have hd : D i = .lit (.string s.data.toList) := (Prod.mk.inj e1).1
      refine ⟨s, ?_, hd⟩
      have := h4 0 (by omega)
      rw [Nat.mul_one] at this
      rw [show (ad.add i).add 0 = ad.add i by unfold Addr.add; cases ad.spot <;> simp] at this
      rw [this]; rfl
    let f : Nat → ByteArray := fun i => if h : i < len then (each i h).choose else ⟨#[]⟩
    have hfs : ∀ i, i < len → W.cell? (ad.add i) = some (.string (f i)) ∧ D i = .lit (.string (f i).data.toList) := fun i hil => by
      have e : f i = (each i hil).choose := by simp only [f, hil, dif_pos]
      rw [e]
      exact (each i hil).choose_spec
    have hfl : ((List.range len).map f).length = len := by simp
    have hfa : ∀ i, i < len → ((List.range len).map f).getD i ⟨#[]⟩ = f i := fun i hil => by
      rw [List.getD_eq_getElem?_getD, List.getElem?_map, List.getElem?_range hil]; rfl
    refine ⟨some ad, len, cap, (List.range len).map f, rfl, ⟨(fun e => by cases e), some ad, cap, by rw [hfl], by rw [hfl]; exact hl, by unfold maxLen at hm; omega, fun h0 => ?_⟩, ?_⟩
    · rw [hfl] at h0
      have c0 := (hfs 0 h0).1
      obtain ⟨b, off, spot⟩ := ad
      have hsp : spot = none := by
        cases spot with
        | none => rfl
        | some t => simp [World.cell?, Addr.add] at c0; split at c0 <;> simp at c0
      subst hsp
      refine ⟨b, off, rfl, fun i hil => ?_⟩
      rw [hfl] at hil
      rw [hfa i hil, ← (hfs i hil).1, show (Addr.add ⟨b, off, none⟩ i : Addr) = ⟨b, off + i, none⟩ by unfold Addr.add; split <;> simp_all]
    · rw [← bulk_texts (H := H), List.map_map]
      have hmap : (List.range len).map D = (List.range len).map ((fun s => DataW.lit (H := H) (.string s.data.toList)) ∘ f) := List.map_congr_left fun i hi => (hfs i (List.mem_range.1 hi)).2
      have hd : x.1 = .slice ((List.range len).map D) ((List.range (m - len)).map fun j => D (len + j)) := by rw [hx]
      rw [hd, ← hmap]
      simp only [Rows.uptoBulk]
      omega
theorem open_strs {a : Option Addr} {len cap : Nat} {d : DataW H} {p : List MemPlace} (h : DataW.Trod en Tryd.prog W base spare held 27 (.slice a len cap) d p) :
    ∃ l, ((a = none → cap = 0) ∧ StrsIn W (.slice a len cap) l) ∧ (tailL l).length ≤ Rows.uptoBulk d := by
  obtain ⟨fuel, hf⟩ := h
  obtain ⟨a', n', c', l, e, h1, h2⟩ := open_texts hf
  simp [Value.cells] at e
  obtain ⟨rfl, rfl, rfl⟩ := e
  exact ⟨l, h1, h2⟩
theorem open_answer {v : Value} {dd : DataW H} {p : List MemPlace} (h : DataW.Trod en Tryd.prog W base spare held 29 v dd p) :
    ∃ (ad : Option Addr) (n c : Nat) (x : An), v = .agg #[.int .i64 x.kind, .slice ad n c, .int .i64 x.why] ∧ StrsIn W (.slice ad n c) x.apps ∧ (tailL x.apps).length ≤ Rows.uptoBulk dd := by
  obtain ⟨fuel, hf⟩ := h
  obtain ⟨l, hle⟩ : ∃ l, v.cells.toList = l := ⟨_, rfl⟩
  rw [hle] at hf
  have hc3 : Tryd.prog.cellsOf 29 = 3 := by kernel_rfl
  have hs1 : Tryd.prog.cellsOf 27 = 1 := by kernel_rfl
  have hi1 : Tryd.prog.cellsOf 3 = 1 := by kernel_rfl
  obtain ⟨ys, n', -, hx, hlen, hyl, hg⟩ := DataW.trod_struct Tryd.underlying29 hf
  rw [hc3] at hlen
  have hyl : ys.length = 3 := hyl
  obtain ⟨v0, v1, v2, rfl⟩ : ∃ v0 v1 v2, l = [v0, v1, v2] := by
    clear hle hf hg
    rcases l with _ | ⟨v0, _ | ⟨v1, _ | ⟨v2, _ | ⟨v3, t⟩⟩⟩⟩ <;> first | exact ⟨_, _, _, rfl⟩ | (simp at hlen)
  obtain ⟨y0, y1, y2, rfl⟩ : ∃ y0 y1 y2, ys = [y0, y1, y2] := by
    clear hle hf hg hx
    rcases ys with _ | ⟨y0, _ | ⟨y1, _ | ⟨y2, _ | ⟨y3, t⟩⟩⟩⟩ <;> first | exact ⟨_, _, _, rfl⟩ | (simp at hyl)
  have g0 : DataW.trod en Tryd.prog W base spare held n' 3 (([v0, v1, v2].drop 0).take (Tryd.prog.cellsOf 3)) = some y0 := hg 0 _ rfl
  have g1 : DataW.trod en Tryd.prog W base spare held n' 27 (([v0, v1, v2].drop 1).take (Tryd.prog.cellsOf 27)) = some y1 := hg 1 _ rfl
  have g2 : DataW.trod en Tryd.prog W base spare held n' 3 (([v0, v1, v2].drop 2).take (Tryd.prog.cellsOf 3)) = some y2 := hg 2 _ rfl
  rw [hi1] at g0 g2
  rw [hs1] at g1
  obtain ⟨k, e0, -, -⟩ := DataW.trod_int Tryd.underlying3 g0
  obtain ⟨ad, n, c, txs, e1, hI, hB⟩ := open_texts g1
  obtain ⟨r, e2, -, -⟩ := DataW.trod_int Tryd.underlying3 g2
  obtain rfl : v0 = .int .i64 k := by simpa using e0
  obtain rfl : v1 = .slice ad n c := by simpa using e1
  obtain rfl : v2 = .int .i64 r := by simpa using e2
  refine ⟨ad, n, c, ⟨k, txs, r⟩, ?_, hI.2, ?_⟩
  · have hs : v.cells.size = 3 := by
      have := congrArg List.length hle
      simpa using this
    cases v <;> first
      | (exfalso; simp [Value.cells] at hs; done)
      | (rename_i cs; simp only [Value.cells] at hle; rw [← hle])
  · have hd : dd = .agg [y0.1, y1.1, y2.1] := (Prod.mk.inj hx).1
    rw [hd]
    simp only [Rows.uptoBulk, Rows.uptoBulkAll]
    have h1 : (tailL txs).length ≤ Rows.uptoBulk y1.1 := hB
    show (tailL txs).length ≤ _
    omega
end
end Go.Proofs.YtmgdkdohadaknaaDoor.pick
