/- Plain mathematics for the law on plain patterns. -/
import Derived.Test.YtafopoacnngaeaaDoorSbSpeaks
import Derived.Test.YtafopoacnngaeaaDoorJoinMath
set_option linter.unusedSimpArgs false
set_option linter.unusedVariables false
namespace Go.Proofs.YtafopoacnngaeaaDoor.subst
open Go.RowKit Go.Proofs.YtafopoacnngaeaaDoor.errs Go.Proofs.YtafopoacnngaeaaDoor.rows Go.Proofs.YtafopoacnngaeaaDoor.utf Go.Proofs.YtafopoacnngaeaaDoor.glref Go.Proofs.YtafopoacnngaeaaDoor.gmath Go.Proofs.YtafopoacnngaeaaDoor.chars Go.Proofs.YtafopoacnngaeaaDoor.umath

theorem okP_of (p : ByteArray) : okP p = decide ((checkOf p).1 = 0) := rfl
theorem pat_whole (X P : List Int) : (patL X P [0]).contains X.length = lang false P X := by
  rw [Bool.eq_iff_iff, List.contains_iff_mem, pat_mem X P [0] (good_zero _)]
  constructor
  · rintro ⟨a, ha, h1, h2, h3⟩
    rw [List.mem_singleton.1 ha, piece_all] at h3
    exact h3
  · intro h
    exact ⟨0, List.mem_singleton.2 rfl, Nat.zero_le _, Nat.le_refl _, by rw [piece_all]; exact h⟩
theorem lang_chs (fold : Bool) (p s : ByteArray) : lang false ((all p).map (fo fold)) (chs fold s) = lang fold (all p) (all s) := (lang_fo fold (all p) (all s)).symm
theorem vals_whole (fold : Bool) (s : ByteArray) (vs : List ByteArray) : (valsL (chs fold s) (okPats fold vs) [0]).contains (chs fold s).length = vs.any fun v => okP v && lang fold (all v) (all s) := by
  rw [Bool.eq_iff_iff, List.contains_iff_mem, vals_mem, List.any_eq_true]
  unfold okPats
  constructor
  · rintro ⟨-, P, hP, h⟩
    obtain ⟨v, hv, rfl⟩ := List.mem_map.1 hP
    obtain ⟨h1, h2⟩ := List.mem_filter.1 hv
    have h3 := List.contains_iff_mem.2 h
    rw [pat_whole, lang_chs] at h3
    exact ⟨v, h1, by rw [h2, h3]; rfl⟩
  · rintro ⟨v, hv, h⟩
    rw [Bool.and_eq_true] at h
    refine ⟨Nat.le_refl _, _, List.mem_map.2 ⟨v, List.mem_filter.2 ⟨hv, h.1⟩, rfl⟩, ?_⟩
    refine List.contains_iff_mem.1 ?_
    rw [pat_whole, lang_chs]
    exact h.2

def nX : ByteArray := ⟨#[120]⟩
def nA : ByteArray := ⟨#[97, 108, 112, 104, 97]⟩
def star : ByteArray := ⟨#[42]⟩
def plV (vs : List ByteArray) : List Vr := [⟨nX, vs⟩, ⟨nX, [star]⟩, ⟨nA, [star]⟩]
def pX : List UInt8 := [36, 40, 120, 41]
def pA : List UInt8 := [36, 40, 97, 108, 112, 104, 97, 41]
theorem find_X (vs : List ByteArray) : findVr (plV vs) (T [120]) = some ⟨nX, vs⟩ := by
  unfold findVr plV
  have : isNamed (T [120]) ⟨nX, vs⟩ = true := by unfold isNamed; kernel_rfl
  rw [List.find?_cons_of_pos this]
theorem plain_X (fold : Bool) (vs : List ByteArray) (s : ByteArray) : matchS fold pX (plV vs) s = vs.any fun v => matchOf fold v s := by
  have hp : partsOf pX = [(0, ⟨1, pX, [120]⟩)] := by kernel_rfl
  have hk : knownV (plV vs) [120] = true := by unfold knownV; rw [find_X]; rfl
  have hc : (checkS pX (plV vs)).1 = 0 := by
    unfold checkS
    have h0 : (checkOf (T pX)).1 = 0 := by kernel_rfl
    rw [if_pos h0, hp]
    show (if (partBad (knownV (plV vs)) (0, ⟨1, pX, [120]⟩)).1 = 0 then partsBad _ [] else _).1 = 0
    have : partBad (knownV (plV vs)) (0, ⟨1, pX, [120]⟩) = (0, 0) := by unfold partBad; rw [if_neg (by decide), if_neg (fun h => by have := h.2; rw [hk] at this; cases this)]
    rw [this]; rfl
  have hv : varPc fold (plV vs) [120] = .vals (okPats fold vs) := by
    unfold varPc
    have : classOf [120] = none := by kernel_rfl
    rw [this, find_X]
  have hf : fits fold pX (plV vs) s = vs.any fun v => okP v && lang fold (all v) (all s) := by
    unfold fits
    rw [hp, ← vals_whole]
    have hpc : pcOf fold (plV vs) (0, ⟨1, pX, [120]⟩) = .vals (okPats fold vs) := by unfold pcOf; rw [if_pos rfl]; exact hv
    show (endsL (chs fold s) [pcOf fold (plV vs) (0, ⟨1, pX, [120]⟩)] [0]).contains _ = _
    rw [hpc]; rfl
  unfold matchS
  rw [decide_eq_true hc, hf, Bool.true_and]
  unfold matchOf okP
  cases (firstBad s).isNone with
  | true => simp
  | false => simp

/-- Is a text one letter? -/
def oneOf (s : ByteArray) : Bool := decide (s.size = 1) && (decide (97 ≤ ((s.get! 0).toNat ||| 32)) && decide (((s.get! 0).toNat ||| 32) ≤ 122))
def spA (fold : Bool) : List UInt8 := if fold then [97, 122, 97, 122] else [65, 90, 97, 122]
theorem letter_byte : ∀ (fold : Bool) (n : Fin 256), (decide (97 ≤ (n.val ||| 32)) && decide ((n.val ||| 32) ≤ 122)) = inSpans (spA fold) (fo fold (n.val : Int)) := by decide +kernel
theorem letter_high (fold : Bool) (c : Int) (h : 128 ≤ c) : inSpans (spA fold) (fo fold c) = false := by
  have h1 : fo fold c = c := by unfold fo small; cases fold <;> simp <;> omega
  rw [h1]
  unfold spA
  cases fold <;> simp [inSpans] <;> omega
theorem spansOf_A (fold : Bool) : (spansOf fold ⟨[97, 108, 112, 104, 97], [65, 90, 97, 122], 1⟩).data.toList = spA fold := by cases fold <;> kernel_rfl
/-- One character below 128 is one byte. -/
theorem one_byte (s : ByteArray) (c : Int) (hf : firstBad s = none) (h : all s = [c]) (hc : c < 128) : s.size = 1 ∧ ((s.get! 0).toNat : Int) = c := by
  obtain ⟨h1, h2, h3⟩ := ref.unput s s.size 0 (by omega) (by omega) hf
  have e : from_ s s.size 0 = [c] := h
  rw [e] at h1 h2 h3
  have hp : put c = [c] := by unfold put; rw [if_pos hc]
  have hfl : [c].flatMap put = [c] := by simp [hp]
  rw [hfl] at h2 h3
  refine ⟨by simpa using h3.symm, ?_⟩
  have := h2.2 0 (by simp)
  simpa [ref.bt] using this
theorem byte_one (s : ByteArray) (h : s.size = 1) (hc : (s.get! 0).toNat < 128) : firstBad s = none ∧ all s = [((s.get! 0).toNat : Int)] := by
  have hd : Utf8.decode s 0 = ((s.get! 0).toNat, 1) := by
    rw [Lib.decode_at]
    unfold Lib.decodeN
    rw [if_pos hc]
  have hch : charAt s 0 = true := by
    unfold charAt
    rw [hd]
    have : ((s.get! 0).toNat == 65533) = false := by rw [beq_eq_false_iff_ne]; omega
    rw [this]; rfl
  constructor
  · unfold firstBad
    rw [h, scan_step s 0 0 (by omega) hch]; rfl
  · unfold all
    rw [h, from_step s 0 0 (by omega), hd]; rfl
theorem plain_A (fold : Bool) (vs : List ByteArray) (s : ByteArray) : matchS fold pA (plV vs) s = oneOf s := by
  have hp : partsOf pA = [(0, ⟨1, pA, [97, 108, 112, 104, 97]⟩)] := by kernel_rfl
  have hcl : classOf [97, 108, 112, 104, 97] = some ⟨[97, 108, 112, 104, 97], [65, 90, 97, 122], 1⟩ := by kernel_rfl
  have hk : knownV (plV vs) [97, 108, 112, 104, 97] = true := by unfold knownV isOwn; rw [hcl]; simp
  have hc : (checkS pA (plV vs)).1 = 0 := by
    unfold checkS
    have h0 : (checkOf (T pA)).1 = 0 := by kernel_rfl
    rw [if_pos h0, hp]
    show (if (partBad (knownV (plV vs)) (0, ⟨1, pA, [97, 108, 112, 104, 97]⟩)).1 = 0 then partsBad _ [] else _).1 = 0
    have : partBad (knownV (plV vs)) (0, ⟨1, pA, [97, 108, 112, 104, 97]⟩) = (0, 0) := by unfold partBad; rw [if_neg (by decide), if_neg (fun h => by have := h.2; rw [hk] at this; cases this)]
    rw [this]; rfl
  have hv : varPc fold (plV vs) [97, 108, 112, 104, 97] = .cls (inSpans (spA fold)) 1 := by
    unfold varPc
    rw [hcl]
    show Pc.cls (inSpans (spansOf fold ⟨[97, 108, 112, 104, 97], [65, 90, 97, 122], 1⟩).data.toList) 1 = _
    rw [spansOf_A]
  have hpc : pcOf fold (plV vs) (0, ⟨1, pA, [97, 108, 112, 104, 97]⟩) = .cls (inSpans (spA fold)) 1 := by unfold pcOf; rw [if_pos rfl]; exact hv
  have hf : fits fold pA (plV vs) s = (behindL (inSpans (spA fold)) (chs fold s) [0]).contains (chs fold s).length := by
    unfold fits
    rw [hp]
    show (endsL (chs fold s) [pcOf fold (plV vs) (0, ⟨1, pA, [97, 108, 112, 104, 97]⟩)] [0]).contains _ = _
    rw [hpc]; rfl
  unfold matchS
  rw [decide_eq_true hc, hf, Bool.true_and, Bool.eq_iff_iff, Bool.and_eq_true, List.contains_iff_mem, behind_mem]
  constructor
  · rintro ⟨hr, a, ha, h1, h2, h3⟩
    rw [Option.isNone_iff_eq_none] at hr
    obtain rfl : a = 0 := List.mem_singleton.1 ha
    have hl : (all s).length = 1 := by
      have : (chs fold s).length = (all s).length := List.length_map _
      omega
    obtain ⟨c, hcs⟩ : ∃ c, all s = [c] := List.length_eq_one_iff.1 hl
    have hx : (chs fold s).getD 0 0 = fo fold c := by unfold chs; rw [hcs]; rfl
    rw [hx] at h2
    by_cases h128 : c < 128
    · obtain ⟨z1, z2⟩ := one_byte s c hr hcs h128
      unfold oneOf
      rw [decide_eq_true z1, Bool.true_and]
      have := letter_byte fold ⟨(s.get! 0).toNat, (s.get! 0).toNat_lt⟩
      rw [this]
      show inSpans (spA fold) (fo fold ((s.get! 0).toNat : Int)) = true
      rw [z2]; exact h2
    · rw [letter_high fold c (by omega)] at h2; cases h2
  · intro h
    unfold oneOf at h
    rw [Bool.and_eq_true, decide_eq_true_eq] at h
    have hl := letter_byte fold ⟨(s.get! 0).toNat, (s.get! 0).toNat_lt⟩
    have hl : _ = inSpans (spA fold) (fo fold ((s.get! 0).toNat : Int)) := hl
    rw [show (decide (97 ≤ ((⟨(s.get! 0).toNat, (s.get! 0).toNat_lt⟩ : Fin 256).val ||| 32)) && decide (((⟨(s.get! 0).toNat, (s.get! 0).toNat_lt⟩ : Fin 256).val ||| 32) ≤ 122)) = true from h.2] at hl
    have h128 : (s.get! 0).toNat < 128 := by
      rcases Nat.lt_or_ge (s.get! 0).toNat 128 with q | q
      · exact q
      · rw [letter_high fold _ (by omega)] at hl; cases hl
    obtain ⟨z1, z2⟩ := byte_one s h.1 h128
    rw [z1]
    refine ⟨rfl, 0, List.mem_singleton.2 rfl, ?_, ?_, ?_⟩
    · unfold chs; rw [z2]; exact Nat.one_pos
    · unfold chs; rw [z2]; exact hl.symm
    · unfold chs; rw [z2]; rfl

/-- Does a variable begin nowhere in a text? -/
theorem lead_all : ∀ l : List UInt8, (∀ i, begin2 (l.drop i) = false) → leadN l = l.length
  | [], _ => rfl
  | c :: r, h => by
    have h0 := h 0
    rw [List.drop_zero] at h0
    unfold leadN
    rw [h0, lead_all r (fun i => by have := h (i + 1); rwa [List.drop_succ_cons] at this)]
    simp
theorem plain_P (fold : Bool) (vs : List Vr) (p s : ByteArray) (hz : p.size ≤ 1000) (h : ∀ i, begin2 (p.data.toList.drop i) = false) : matchS fold p.data.toList vs s = matchOf fold p s := by
  have hln : p.data.toList.length ≤ 1000 := by rw [Array.length_toList]; exact hz
  have hl := lead_all _ h
  have h0 := h 0
  rw [List.drop_zero] at h0
  have hT : T p.data.toList = p := rfl
  generalize hq : p.data.toList = l at *
  have hfp : firstP l = ⟨0, l, []⟩ := by unfold firstP; rw [if_neg (by rw [h0]; decide), hl, List.take_length]
  have hpt : l = [] ∧ partsOf l = [] ∨ l ≠ [] ∧ partsOf l = [(0, ⟨0, l, []⟩)] := by
    cases hl2 : l with
    | nil => exact .inl ⟨rfl, rfl⟩
    | cons c r =>
      refine .inr ⟨by simp, ?_⟩
      rw [← hl2]
      unfold partsOf
      rw [show l.length = (l.length - 1) + 1 by rw [hl2]; simp, parts_step _ 0 (by rw [hl2]; simp), hfp]
      show (0, _) :: partsF _ _ (l.drop l.length) = _
      rw [List.drop_length, parts_end]
  have hb : partsBad (knownV vs) (partsOf l) = (0, 0) := by
    rcases hpt with ⟨-, e⟩ | ⟨-, e⟩
    · rw [e]; rfl
    · rw [e]; rfl
  have hck : (checkS l vs).1 = 0 ↔ (checkOf p).1 = 0 := by
    unfold checkS
    rw [hT, hb]
    split
    · rename_i h1; exact ⟨fun _ => h1, fun _ => rfl⟩
    · exact Iff.rfl
  have htx : (⟨0, l, []⟩ : Pt).tx = l := List.take_of_length_le (by show l.length ≤ _; omega)
  have hf : fits fold l vs s = lang fold (all p) (all s) := by
    rw [← lang_chs, ← pat_whole]
    unfold fits
    rcases hpt with ⟨e1, e2⟩ | ⟨-, e⟩
    · rw [e2]
      have : all p = [] := by
        unfold all
        have : p.size = 0 := by
          have : p.data.toList.length = 0 := by rw [hq, e1]; rfl
          rwa [Array.length_toList] at this
        rw [this]; rfl
      rw [this]; rfl
    · rw [e]
      show (endsL (chs fold s) [pcOf fold vs (0, ⟨0, l, []⟩)] [0]).contains _ = _
      have hpc : pcOf fold vs (0, ⟨0, l, []⟩) = .pat ((all p).map (fo fold)) := by
        unfold pcOf
        rw [if_neg (by show ¬ (0 = 1); decide)]
        show Pc.pat ((all (T (⟨0, l, []⟩ : Pt).tx)).map (fo fold)) = _
        rw [htx, hT]
      rw [hpc]; rfl
  unfold matchS matchOf
  rw [hf, decide_eq_decide.2 hck]
end Go.Proofs.YtafopoacnngaeaaDoor.subst
