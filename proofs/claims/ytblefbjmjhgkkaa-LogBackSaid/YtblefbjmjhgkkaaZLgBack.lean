/- Layer 19: plain facts of what is printed and parsed again. -/
import Derived.Test.YtblefbjmjhgkkaaZLgForm
set_option linter.unusedVariables false
set_option maxRecDepth 100000
set_option linter.unusedSimpArgs false
namespace Go.Proofs.Ytblefbjmjhgkkaa

/-- What was printed of a stable record is parsed as it was. -/
theorem printedS (x : Stb) (h1 : x.ep < 18446744073709551616) (h2 : x.inc < 4294967296) (h3 : x.r.ok) (h0 : errRec x.r = 0) : (strOf (errRec x.r) (putS x)).size ≤ 1099511627776 ∧ resS (strOf (errRec x.r) (putS x)) = (x, 0) := by
  have hf := (errRec_iff h3).1 h0
  rw [strOf_yes h0]
  refine ⟨?_, resS_ok (parseS_iff.2 ⟨⟨h1, h2, hf⟩, rfl⟩)⟩
  show (putS x).toArray.size ≤ _
  rw [List.size_toArray, putS_length]
  have := hf.few
  omega
theorem codeI_zero {x : Itm} (hx : x.ok) : codeI x = 0 ↔ (1 ≤ x.k ∧ x.k ≤ 4) ∧ fitsI x ∧ (putI x).length ≤ 1024 := by
  unfold codeI
  rw [orN_zero, errI_iff hx, and_assoc]
  refine and_congr Iff.rfl (and_congr Iff.rfl ?_)
  constructor
  · intro h
    refine Nat.le_of_not_lt fun h2 => ?_
    rw [if_pos h2] at h
    cases h
  · intro h
    exact if_neg (by omega)
theorem clean_k (x : Itm) : (cleanI x).k = x.k := by
  unfold cleanI
  by_cases h1 : x.k = 1
  · simp [h1]
  · by_cases h2 : x.k = 2
    · simp [h2]
    · by_cases h3 : x.k = 3
      · simp [h3]
      · simp [h1, h2, h3]
/-- What was printed of an item is parsed as far as its row names it, and printed to the same bytes. -/
theorem printedI (x : Itm) (hx : x.ok) (h0 : codeI x = 0) : (strOf (codeI x) (putI x)).size ≤ 1099511627776 ∧ resI (strOf (codeI x) (putI x)) = (cleanI x, 0) ∧ (1 ≤ x.k ∧ x.k ≤ 4) ∧ codeI (cleanI x) = 0 ∧ strOf (codeI (cleanI x)) (putI (cleanI x)) = strOf (codeI x) (putI x) ∧ (cleanI x).ok ∧ (textI (cleanI x)).size ≤ 1000000 := by
  obtain ⟨hk, hf, hl⟩ := (codeI_zero hx).1 h0
  have hc := cleanI_ok hf
  have hc0 : codeI (cleanI x) = 0 := (codeI_zero hc).2 ⟨by rw [clean_k]; exact hk, (fits_cleanI x).2 hf, by rw [put_cleanI]; exact hl⟩
  rw [strOf_yes h0, strOf_yes hc0, put_cleanI]
  refine ⟨?_, resI_ok (parse_putI x hk hf hl), hk, hc0, rfl, hc, ?_⟩
  · show (putI x).toArray.size ≤ _
    rw [List.size_toArray]; omega
  · show (cleanI x).data.toArray.size ≤ _
    rw [List.size_toArray]
    have hd : (cleanI x).data.length ≤ (putI (cleanI x)).length := by
      unfold putI bodyI
      rw [clean_k]
      by_cases h1 : x.k = 1
      · rw [if_pos h1, List.length_append]; omega
      · by_cases h2 : x.k = 2
        · have : (cleanI x).data = [] := by unfold cleanI; rw [if_neg h1, if_pos h2]; rfl
          rw [this]; exact Nat.zero_le _
        · by_cases h3 : x.k = 3
          · have : (cleanI x).data = [] := by unfold cleanI; rw [if_neg h1, if_neg h2, if_pos h3]; rfl
            rw [this]; exact Nat.zero_le _
          · rw [if_neg h1, if_neg h2, if_neg h3, List.length_append, List.length_append, List.length_append, List.length_append]; omega
    rw [put_cleanI] at hd
    omega
theorem endG_ne {α : Type} {x : Got α} {c : Nat} (hx : ∀ q, x = .error q → q ≠ 0) (h : endG x = .error c) : c ≠ 0 := by
  unfold endG at h
  split at h
  · rename_i e; injection h with h; subst h; exact hx _ rfl
  · cases h
  · injection h with h; omega
theorem parseS_ne {l : List UInt8} {c : Nat} (h : parseS l = .error c) : c ≠ 0 := by
  unfold parseS at h
  rw [getS_k] at h
  exact endG_ne (fun q hq => ((nn_K 1).and fun _ => nn_St) l q hq) h
theorem parseI_ne {l : List UInt8} {c : Nat} (h : parseI l = .error c) : c ≠ 0 := by
  rw [parseI_k] at h
  split at h
  · rename_i e hk; injection h with h; subst h; exact nn_K 4 l _ hk
  · split at h
    · injection h with h; omega
    · exact endG_ne (fun q hq => nn_It _ _ q hq) h
/-- What is parsed is printed to its bytes. -/
theorem readS {s : ByteArray} (h0 : (resS s).2 = 0) : strOf (errRec (resS s).1.r) (putS (resS s).1) = s ∧ errRec (resS s).1.r = 0 := by
  cases hp : parseS s.data.toList with
  | error c => rw [resS_err hp] at h0; exact absurd h0 (parseS_ne hp)
  | ok x =>
    rw [resS_ok hp]
    obtain ⟨hf, hl⟩ := parseS_iff.1 hp
    have he := (errRec_iff hf.r.ok).2 hf.r
    exact ⟨by rw [strOf_yes he, ← hl], he⟩
theorem readI {s : ByteArray} (h0 : (resI s).2 = 0) : strOf (codeI (resI s).1) (putI (resI s).1) = s ∧ codeI (resI s).1 = 0 ∧ (resI s).1.ok ∧ (textI (resI s).1).size ≤ 1000000 := by
  cases hp : parseI s.data.toList with
  | error c => rw [resI_err hp] at h0; exact absurd h0 (parseI_ne hp)
  | ok x =>
    rw [resI_ok hp]
    have hok := parsedI_ok hp
    obtain ⟨hk, hf, hc, hl, hn⟩ := parseI_iff.1 hp
    have he : codeI x = 0 := (codeI_zero hok).2 ⟨hk, hf, by rw [← hl]; exact hn⟩
    obtain ⟨_, _, _, _, _, _, hz⟩ := printedI x hok he
    rw [hc] at hz
    exact ⟨by rw [strOf_yes he, ← hl], he, hok, hz⟩
/-- What an item's row names stays. -/
theorem clean_data (x : Itm) (h : x.k = 1 ∨ x.k = 4) : (cleanI x).data = x.data := by
  unfold cleanI
  rcases h with h | h
  · rw [if_pos h]
  · rw [if_neg (by omega), if_neg (by omega), if_neg (by omega)]
theorem clean_view (x : Itm) (h : x.k = 3) : (cleanI x).view = x.view := by
  unfold cleanI
  rw [if_neg (by omega), if_neg (by omega), if_pos h]
theorem clean_two (x : Itm) (h : x.k = 2) : (cleanI x).inc = x.inc ∧ (cleanI x).holds = x.holds ∧ (cleanI x).has = x.has ∧ (cleanI x).direct = x.direct ∧ (cleanI x).r = x.r := by
  unfold cleanI
  rw [if_neg (by omega), if_pos h]
  exact ⟨rfl, rfl, rfl, rfl, rfl⟩
end Go.Proofs.Ytblefbjmjhgkkaa
