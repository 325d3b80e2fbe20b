/- Plain mathematics: texts of one number, of base 16, 8 and 10, are read as its address. -/
import Derived.Test.YtahlkhaehlemcaaDoorQdDig
set_option linter.unusedSimpArgs false
set_option linter.unusedVariables false
namespace Go.Proofs.YtahlkhaehlemcaaDoor.qdig
open Go.Proofs.YtahlkhaehlemcaaDoor.qmath Go.Proofs.YtahlkhaehlemcaaDoor.qread Go.Proofs.YtahlkhaehlemcaaDoor.qfields Go.Proofs.YtahlkhaehlemcaaDoor.qlaid Go.Proofs.YtahlkhaehlemcaaDoor.qparse

def goodOf (n : Nat) : Out := .good (n / 16777216 % 256) (n / 65536 % 256) (n / 256 % 256) (n % 256)

theorem cut_whole {t : ByteArray} (h : ∀ i, i < t.size → ¬ t.get! i = 46) : ∀ g i, g + i = t.size → cutFrom t g i 0 [] = .parts [t]
  | 0, i, _ => by
    rw [cut_end]
    simp
  | g + 1, i, hg => by
    rw [cut_on (h i (by omega))]
    exact cut_whole h g (i + 1) (by omega)
theorem mem_get (t : ByteArray) (i : Nat) (h : i < t.size) : t.get! i ∈ t.data.toList := by
  show t.data[i]! ∈ _
  rw [getElem!_pos t.data i h]
  exact Array.getElem_mem_toList h
theorem cut_plain {t : ByteArray} (h : ∀ c ∈ t.data.toList, c ≠ 46) : cut t = .parts [t] :=
  cut_whole (fun i hi e => h _ (mem_get t i hi) e) _ _ rfl
theorem parse_one {s t : ByteArray} {n : Nat} (hu : unended s = t) (hd : ∀ c ∈ t.data.toList, c ≠ 46) (hr : readPart t = .num n) (hn : n < 4294967296) : parseOf s = goodOf n := by
  unfold parseOf
  rw [hu, cut_plain hd]
  show outOf [t] (badFrom [t] 1 0) = _
  rw [bad_on (l := [t]) (g := 0) (j := 0) (n := n) hr]
  show laidOf (partsOf [t]) 0 = _
  unfold laidOf over
  have e : (partsOf [t] 0).2 = n := numOf_num hr
  show (if 256 ^ (4 - 0) ≤ (partsOf [t] 0).2 then _ else _) = _
  rw [e, if_neg (by omega)]
  unfold goodOf pick
  rw [e]
  simp
theorem extract_list (t : ByteArray) (a : Nat) : (t.extract a t.size).data.toList = t.data.toList.drop a := by
  rw [ByteArray.data_extract, Array.toList_extract]
  show List.extract t.data.toList a t.data.size = _
  unfold List.extract
  rw [List.take_of_length_le (by simp)]
theorem alien_nil {t : ByteArray} (h : ∀ c ∈ (restOf t).data.toList, isDig (baseOf t) c = true) : alien t = [] := by
  unfold alien Lib.trimLeftS
  have key : ∀ l : List UInt8, (∀ c ∈ l, isDig (baseOf t) c = true) → l.dropWhile (fun x => (digs (baseOf t)).contains x) = [] := by
    intro l
    induction l with
    | nil => intro _; rfl
    | cons c r ih =>
      intro hl
      rw [List.dropWhile_cons_of_pos (by rw [digs_any (base_is t)]; exact hl c (List.mem_cons_self ..))]
      exact ih fun x hx => hl x (List.mem_cons_of_mem _ hx)
  exact key _ h
theorem read_num_of {t : ByteArray} {n : Nat} (h0 : t.size ≠ 0) (h : ∀ c ∈ (restOf t).data.toList, isDig (baseOf t) c = true) (hn : num (baseOf t) 0 (restOf t).data.toList = some n) : readPart t = .num n := by
  unfold readPart
  rw [if_neg h0, if_pos (alien_nil h), hn]
  rfl

theorem unended_same {s : ByteArray} (h : ∀ c ∈ s.data.toList, c ≠ 46) : unended s = s := by
  unfold unended
  split
  · have : Lib.trimSuffix s.data.toList [46] = s.data.toList := by
      unfold Lib.trimSuffix Lib.hasSuffix
      rw [if_neg]
      intro e
      obtain ⟨l, hl⟩ := List.isSuffixOf_iff_suffix.1 e
      exact h 46 (by rw [← hl]; simp) rfl
    rw [this]
  · rfl
theorem unended_point (t : ByteArray) (h : 0 < t.size) : unended (t ++ ⟨#[46]⟩) = t := by
  have hsz : (t ++ ⟨#[46]⟩ : ByteArray).size = t.size + 1 := by rw [ByteArray.size_append]; rfl
  have hl : (t ++ ⟨#[46]⟩ : ByteArray).data.toList = t.data.toList ++ [46] := by rw [ByteArray.data_append, Array.toList_append]
  unfold unended
  rw [if_pos (by omega), hl]
  have : Lib.trimSuffix (t.data.toList ++ [46]) [46] = t.data.toList := by
    unfold Lib.trimSuffix Lib.hasSuffix
    rw [if_pos (List.isSuffixOf_iff_suffix.2 ⟨_, rfl⟩)]
    simp
  rw [this]

theorem size_list (l : List UInt8) : (⟨l.toArray⟩ : ByteArray).size = l.length := by show l.toArray.size = _; simp

theorem hex_read (n : Nat) (hn : n < 4294967296) : parseOf ⟨(48 :: 120 :: dl 16 32 n).toArray⟩ = goodOf n := by
  have hb : IsBase 16 := .inr (.inr rfl)
  have hx : hexed ⟨(48 :: 120 :: dl 16 32 n).toArray⟩ = true := by unfold hexed Lib.hasPrefix; simp
  have hr : (restOf ⟨(48 :: 120 :: dl 16 32 n).toArray⟩).data.toList = dl 16 32 n := by
    unfold restOf
    rw [if_pos hx, extract_list]
    rfl
  have hbs : baseOf ⟨(48 :: 120 :: dl 16 32 n).toArray⟩ = 16 := by unfold baseOf; rw [if_pos hx]
  have hd : ∀ c ∈ (⟨(48 :: 120 :: dl 16 32 n).toArray⟩ : ByteArray).data.toList, c ≠ 46 := by
    intro c hc
    simp only [List.mem_cons] at hc
    rcases hc with rfl | rfl | hc
    · decide
    · decide
    · exact (dl_is hb _ _ c hc).2
  refine parse_one (unended_same hd) hd (read_num_of (by rw [size_list]; simp) ?_ ?_) hn
  · rw [hr, hbs]; exact fun c hc => (dl_is hb _ _ c hc).1
  · rw [hr, hbs]; exact num_dl hb 32 n (by simpa using hn) hn

theorem eq_list {t : ByteArray} {l : List UInt8} (h : t.data.toList = l) : t = ⟨l.toArray⟩ := by
  obtain ⟨d⟩ := t
  subst h
  simp
theorem not_hexed {l : List UInt8} (h : ∀ c, l[1]? = some c → c ≠ 120 ∧ c ≠ 88) : hexed ⟨l.toArray⟩ = false := by
  unfold hexed Lib.hasPrefix
  match l, h with
  | [], _ => rfl
  | [a], _ => simp [List.isPrefixOf]
  | a :: b :: r, h =>
    obtain ⟨h1, h2⟩ := h b rfl
    simp [List.isPrefixOf, h1.symm, h2.symm]
theorem oct_read (n : Nat) (hn : n < 4294967296) : parseOf (⟨(48 :: dl 8 32 n).toArray⟩ ++ ⟨#[46]⟩) = goodOf n := by
  have hb : IsBase 8 := .inl rfl
  have hsz : (⟨(48 :: dl 8 32 n).toArray⟩ : ByteArray).size = (dl 8 32 n).length + 1 := by rw [size_list]; rfl
  have hx : hexed ⟨(48 :: dl 8 32 n).toArray⟩ = false := not_hexed fun c hc => by
    have hc : c ∈ dl 8 32 n := by
      rw [List.getElem?_cons_succ] at hc
      exact List.mem_of_getElem? hc
    have h1 := (dl_is hb _ _ c hc).1
    have h2 : c.toNat ≤ 57 := by rcases dig_cases h1 with h | ⟨h, _⟩ <;> omega
    constructor
    · rintro rfl; exact absurd h2 (by decide)
    · rintro rfl; exact absurd h2 (by decide)
  have hd : ∀ c ∈ (⟨(48 :: dl 8 32 n).toArray⟩ : ByteArray).data.toList, c ≠ 46 := by
    intro c hc
    simp only [List.mem_cons] at hc
    rcases hc with rfl | hc
    · decide
    · exact (dl_is hb _ _ c hc).2
  have hg : (⟨(48 :: dl 8 32 n).toArray⟩ : ByteArray).get! 0 = 48 := rfl
  refine parse_one (unended_point _ (by omega)) hd ?_ hn
  by_cases h0 : (dl 8 32 n).length = 0
  · have he : eight ⟨(48 :: dl 8 32 n).toArray⟩ = false := by unfold eight; rw [hsz, h0]; rfl
    have hr : restOf ⟨(48 :: dl 8 32 n).toArray⟩ = ⟨(48 :: dl 8 32 n).toArray⟩ := by unfold restOf; rw [hx, he]; rfl
    have hbs : baseOf ⟨(48 :: dl 8 32 n).toArray⟩ = 10 := by unfold baseOf; rw [hx, he]; rfl
    have hl : dl 8 32 n = [] := List.length_eq_zero_iff.1 h0
    have hnn := num_dl hb 32 n (by simpa using hn) hn
    rw [hl] at hnn
    have hn0 : n = 0 := by simpa [num] using hnn.symm
    refine read_num_of (by omega) ?_ ?_
    · rw [hr, hbs, hl]; intro c hc; obtain rfl := List.mem_singleton.1 hc; rfl
    · rw [hr, hbs, hl, hn0]; rfl
  · have he : eight ⟨(48 :: dl 8 32 n).toArray⟩ = true := by unfold eight; rw [hsz, hg, decide_eq_true (by omega)]; rfl
    have hr : (restOf ⟨(48 :: dl 8 32 n).toArray⟩).data.toList = dl 8 32 n := by unfold restOf; rw [hx, he, if_neg Bool.false_ne_true, if_pos rfl, extract_list]; rfl
    have hbs : baseOf ⟨(48 :: dl 8 32 n).toArray⟩ = 8 := by unfold baseOf; rw [hx, he]; rfl
    refine read_num_of (by omega) ?_ ?_
    · rw [hr, hbs]; exact fun c hc => (dl_is hb _ _ c hc).1
    · rw [hr, hbs]; exact num_dl hb 32 n (by simpa using hn) hn
theorem dec_read (n : Nat) (hn : n < 4294967296) (h0 : n ≠ 0) : parseOf ⟨(dl 10 32 n).toArray⟩ = goodOf n := by
  have hb : IsBase 10 := .inr (.inl rfl)
  obtain ⟨d, r, e, d0, d1⟩ := dl_head hb 32 n (by simpa using hn) h0
  have hd : ∀ c ∈ (⟨(dl 10 32 n).toArray⟩ : ByteArray).data.toList, c ≠ 46 := fun c hc => (dl_is hb _ _ c (by simpa using hc)).2
  have hx : hexed ⟨(dl 10 32 n).toArray⟩ = false := not_hexed fun c hc => by
    have h1 := (dl_is hb _ _ c (List.mem_of_getElem? hc)).1
    have h2 : c.toNat ≤ 57 := by rcases dig_cases h1 with h | ⟨h, _⟩ <;> omega
    constructor
    · rintro rfl; exact absurd h2 (by decide)
    · rintro rfl; exact absurd h2 (by decide)
  have hl48 : ∀ d : Fin 10, 0 < d.1 → letter d.1 ≠ 48 := by decide
  have hg : ¬ (⟨(dl 10 32 n).toArray⟩ : ByteArray).get! 0 = 48 := by
    rw [e]
    exact hl48 ⟨d, d1⟩ d0
  have he : eight ⟨(dl 10 32 n).toArray⟩ = false := by unfold eight; rw [decide_eq_false hg]; exact Bool.and_false _
  have hr : restOf ⟨(dl 10 32 n).toArray⟩ = ⟨(dl 10 32 n).toArray⟩ := by unfold restOf; rw [hx, he]; rfl
  have hbs : baseOf ⟨(dl 10 32 n).toArray⟩ = 10 := by unfold baseOf; rw [hx, he]; rfl
  refine parse_one (unended_same hd) hd (read_num_of (by rw [size_list, e]; simp) ?_ ?_) hn
  · rw [hr, hbs]; exact fun c hc => (dl_is hb _ _ c (by simpa using hc)).1
  · rw [hr, hbs]; exact num_dl hb 32 n (by simpa using hn) hn
end Go.Proofs.YtahlkhaehlemcaaDoor.qdig
