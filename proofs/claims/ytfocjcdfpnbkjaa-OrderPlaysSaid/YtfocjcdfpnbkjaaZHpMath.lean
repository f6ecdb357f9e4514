/- Both holds, as lists: what the calls answer, and leave. -/
import Derived.Test.YtfocjcdfpnbkjaaZHdVecs
import Derived.Test.YtfocjcdfpnbkjaaZRhPut
import Derived.Test.YtfocjcdfpnbkjaaZRhFroms
set_option linter.unusedVariables false
set_option linter.unusedSimpArgs false
namespace Go.Proofs.Ytfocjcdfpnbkjaa
open Go.RowKit Go.Sort

/-- Those of p. -/
def filtP (L : List Mg) (p : Nat) : List Mg := L.filter fun m => m.f == (p : Int)
theorem cntA_filt (L : List Mg) (p : Nat) : cntA L (p : Int) = (filtP L p).length := rfl
/-- Both holds tell the same. -/
structure PRel (S : Hs) (L : List Mg) (lo : Nat → Nat) : Prop where
  low : ∀ p, p < 64 → S.lo p = lo p
  row : ∀ p, p < 64 → S.R p = ((filtP L p).map strip).drop (lo p)
  num : ∀ p, p < 64 → ∀ (j : Nat) m, (filtP L p)[j]? = some m → m.q = (j : Int) + 1
  bnd : ∀ p, p < 64 → lo p ≤ (filtP L p).length
  proc : ∀ m ∈ L, 0 ≤ m.f ∧ m.f < 64
theorem PRel.start : PRel hs0 [] (fun _ => 0) := ⟨fun _ _ => rfl, fun _ _ => rfl, fun p _ j m h => by simp [filtP] at h, fun _ _ => Nat.le_refl _, fun m h => by cases h⟩
section
variable {S : Hs} {L : List Mg} {lo : Nat → Nat}
theorem PRel.cnt (h : PRel S L lo) (p : Nat) (hp : p < 64) : S.cnt p = cntA L (p : Int) := by
  have h1 := h.bnd p hp
  unfold Hs.cnt
  rw [h.low p hp, h.row p hp, List.length_drop, List.length_map, cntA_filt]
  omega
theorem PRel.noneOf (h : PRel S L lo) (p : Int) (hp : ¬ (0 ≤ p ∧ p < 64)) : ∀ m ∈ L, ¬ m.f = p := fun m hm e => hp (by rw [← e]; exact h.proc m hm)
theorem PRel.cntI (h : PRel S L lo) (p : Int) : onP 0 S.cnt p = cntA L p := by
  rcases proc_cases p with ⟨k, rfl, hk⟩ | hp
  · rw [onP_yes _ _ _ hk]; exact h.cnt k hk
  · rw [onP_no _ _ _ hp]
    unfold cntA
    rw [List.filter_eq_nil_iff.2 (fun m hm => by simpa using h.noneOf p hp m hm)]
    rfl
theorem filtP_append (m : Mg) (p : Nat) : filtP (L ++ [m]) p = if m.f = (p : Int) then filtP L p ++ [m] else filtP L p := by
  unfold filtP
  rw [List.filter_append]
  by_cases e : m.f = (p : Int)
  · rw [if_pos e, List.filter_cons_of_pos (by simpa using e), List.filter_nil]
  · rw [if_neg e, List.filter_cons_of_neg (by simpa using e), List.filter_nil, List.append_nil]
theorem PRel.put (h : PRel S L lo) (m : Mg) : putCode S m = rcode L m ∧ PRel (putS S m) (rputL L m) lo := by
  unfold putCode rcode putS rputL
  by_cases hp : 0 ≤ m.f ∧ m.f < 64
  · obtain ⟨k, hk⟩ := Int.eq_ofNat_of_zero_le hp.1
    have hk64 : k < 64 := by omega
    rw [if_pos hp, if_pos hp, if_pos hp, if_pos hp, hk, Int.toNat_natCast, h.cnt k hk64]
    by_cases hq : m.q = (cntA L (k : Int) : Int) + 1
    · simp only [if_pos hq]
      refine ⟨trivial, ⟨h.low, fun p hp2 => ?_, fun p hp2 j x hx => ?_, fun p hp2 => ?_, fun x hx => ?_⟩⟩
      · rw [filtP_append]
        by_cases e : p = k
        · subst e
          show updF S.R p _ p = _
          rw [updF_same, if_pos hk, h.row p hp2, List.map_append, List.drop_append_of_le_length (by rw [List.length_map]; exact h.bnd p hp2)]
          rfl
        · rw [if_neg (by omega)]
          show updF S.R k _ p = _
          rw [updF_other _ _ _ _ e]
          exact h.row p hp2
      · rw [filtP_append] at hx
        by_cases e : p = k
        · subst e
          rw [if_pos hk, List.getElem?_append] at hx
          split at hx
          · exact h.num p hp2 j x hx
          · rename_i hj
            have hj0 : j - (filtP L p).length = 0 := by
              have := (List.getElem?_eq_some_iff.1 hx).1
              simpa using this
            rw [hj0] at hx
            cases hx
            rw [hq, cntA_filt]
            have : j = (filtP L p).length := by omega
            rw [this]
        · rw [if_neg (by omega)] at hx
          exact h.num p hp2 j x hx
      · have := h.bnd p hp2
        rw [filtP_append]
        split
        · rw [List.length_append]; omega
        · exact this
      · rcases List.mem_append.1 hx with hx | hx
        · exact h.proc x hx
        · rw [List.mem_singleton.1 hx]; exact hp
    · simp only [if_neg hq]
      exact ⟨trivial, h⟩
  · rw [if_neg hp, if_neg hp, if_neg hp, if_neg hp]
    exact ⟨rfl, h⟩
theorem PRel.drop (h : PRel S L lo) (p : Int) (upto : Nat) : PRel (dropS S p upto) L (dropLo lo L p upto) := by
  unfold dropS dropLo
  by_cases hp : 0 ≤ p ∧ p < 64
  · obtain ⟨k, rfl⟩ := Int.eq_ofNat_of_zero_le hp.1
    have hk : k < 64 := by omega
    rw [if_pos hp, if_pos hp, Int.toNat_natCast]
    have hb := h.bnd k hk
    have hd : S.lo k + dropN S k upto = max (lo k) (min upto (cntA L (k : Int))) := by
      unfold dropN
      rw [h.low k hk, h.row k hk, List.length_drop, List.length_map, cntA_filt]
      omega
    have hd2 : dropN S k upto = max (lo k) (min upto (cntA L (k : Int))) - lo k := by rw [← hd, h.low k hk]; omega
    rw [hd, hd2]
    have hx1 : lo k ≤ max (lo k) (min upto (cntA L (k : Int))) := Nat.le_max_left _ _
    have hx2 : max (lo k) (min upto (cntA L (k : Int))) ≤ (filtP L k).length := by rw [cntA_filt]; omega
    generalize max (lo k) (min upto (cntA L (k : Int))) = x at *
    refine ⟨fun q hq => ?_, fun q hq => ?_, h.num, fun q hq => ?_, h.proc⟩
    · by_cases e : q = k
      · subst e; show updF S.lo q x q = _; rw [updF_same, updF_same]
      · show updF S.lo k x q = _
        rw [updF_other _ _ _ _ e, updF_other _ _ _ _ e]; exact h.low q hq
    · by_cases e : q = k
      · subst e
        show updF S.R q _ q = _
        rw [updF_same, updF_same, h.row q hq, List.drop_drop]
        congr 1
        omega
      · show updF S.R k _ q = _
        rw [updF_other _ _ _ _ e, updF_other _ _ _ _ e]; exact h.row q hq
    · by_cases e : q = k
      · subst e; rw [updF_same]; exact hx2
      · rw [updF_other _ _ _ _ e]; exact h.bnd q hq
  · rw [if_neg hp, if_neg hp]
    exact h
/-- What the document's Get finds. -/
theorem PRel.find (h : PRel S L lo) (k : Nat) (hk : k < 64) (seq : Nat) : findA L lo (k : Int) seq = if lo k < seq then (filtP L k)[seq - 1]? else none := by
  have e : findA L lo (k : Int) seq = (filtP L k).find? fun m => m.q == (seq : Int) && decide (lo k < seq) := by
    unfold findA filtP isA
    rw [List.find?_filter, onP_yes _ _ _ hk]
    congr 1
    funext m
    cases m.f == (k : Int) <;> cases (m.q == (seq : Int) && decide (lo k < seq)) <;> rfl
  rw [e]
  by_cases hlt : lo k < seq
  · rw [if_pos hlt]
    cases hx : (filtP L k)[seq - 1]? with
    | some x =>
      refine find_at hx ?_ fun m hm => ?_
      · have := h.num k hk _ x hx
        simp [hlt]
        omega
      · obtain ⟨j, hj, e2⟩ := List.getElem_of_mem hm
        rw [List.length_take] at hj
        rw [List.getElem_take] at e2
        have := h.num k hk j m (by rw [List.getElem?_eq_getElem (by omega), e2])
        have : ¬ m.q = (seq : Int) := by omega
        simp [this]
    | none =>
      refine List.find?_eq_none.2 fun m hm => ?_
      obtain ⟨j, hj, e2⟩ := List.getElem_of_mem hm
      have h1 := h.num k hk j m (by rw [List.getElem?_eq_getElem hj, e2])
      have h2 := List.getElem?_eq_none_iff.1 hx
      have : ¬ m.q = (seq : Int) := by omega
      simp [this]
  · rw [if_neg hlt]
    exact List.find?_eq_none.2 (fun m hm => by simp [hlt])
theorem PRel.findI (h : PRel S L lo) (p : Int) (hp : ¬ (0 ≤ p ∧ p < 64)) (seq : Nat) : findA L lo p seq = Option.none :=
  List.find?_eq_none.2 fun m hm => by
    have := h.noneOf p hp m hm
    unfold isA
    simp [this]
theorem PRel.get (h : PRel S L lo) (p : Int) (seq : Nat) : getX (onP 0 S.lo p) (onP [] S.R p) seq = (findA L lo p seq).map strip := by
  rcases proc_cases p with ⟨k, rfl, hk⟩ | hp
  · rw [onP_yes _ _ _ hk, onP_yes _ _ _ hk, h.find k hk, h.low k hk, h.row k hk]
    unfold getX
    by_cases hlt : lo k < seq
    · rw [if_pos hlt, if_pos hlt, List.getElem?_drop, List.getElem?_map]
      congr 2
      omega
    · rw [if_neg hlt, if_neg hlt]
      rfl
  · rw [onP_no _ _ _ hp, onP_no _ _ _ hp, h.findI p hp]
    unfold getX
    split <;> simp
theorem findA_mem (p : Int) (seq : Nat) {m : Mg} (h : findA L lo p seq = some m) : m ∈ L := List.mem_of_find?_eq_some h
theorem outA_mem (p : Int) (seq : Nat) (most : Int) (x : Mg) : ∀ k, x ∈ outA L lo p seq most k → x ∈ L
  | 0, h => by cases h
  | k + 1, h => by
    have ih := outA_mem p seq most x k
    unfold outA at h
    split at h
    · split at h
      · rename_i m hm
        split at h
        · rcases List.mem_append.1 h with h | h
          · exact ih h
          · rw [List.mem_singleton.1 h]; exact findA_mem p _ hm
        · exact ih h
      · exact ih h
    · exact ih h
/-- What the document's From has. -/
theorem PRel.outK (h : PRel S L lo) (k : Nat) (hk : k < 64) (seq : Nat) (most : Int) : ∀ j, j ≤ (filtP L k).length → outA L lo (k : Int) seq most j = (((filtP L k).take j).drop (max (lo k) (seq - 1))).take most.toNat
  | 0, _ => by simp [outA]
  | j + 1, hj => by
    have ih := h.outK k hk seq most j (by omega)
    unfold outA
    have ht : (filtP L k).take (j + 1) = (filtP L k).take j ++ [(filtP L k)[j]] := List.take_succ_eq_append_getElem (by omega)
    have hlj : ((filtP L k).take j).length = j := by rw [List.length_take]; omega
    have hfd : findA L lo (k : Int) (j + 1) = if lo k < j + 1 then some (filtP L k)[j] else none := by
      rw [h.find k hk, Nat.add_sub_cancel, List.getElem?_eq_getElem (by omega)]
    rw [ih, hfd, ht]
    generalize (filtP L k)[j] = x
    generalize hA : (filtP L k).take j = A at *
    generalize hdd : max (lo k) (seq - 1) = d at *
    by_cases hd : d ≤ j
    · rw [List.drop_append_of_le_length (by omega)]
      generalize hB : A.drop d = B at *
      rw [if_pos (show lo k < j + 1 by omega)]
      simp only [if_pos (show seq ≤ j + 1 by omega)]
      rw [List.length_take]
      by_cases hm : ((min most.toNat B.length : Nat) : Int) < most
      · rw [if_pos hm, List.take_of_length_le (by omega), List.take_of_length_le (by rw [List.length_append, List.length_singleton]; omega)]
      · rw [if_neg hm, List.take_append_of_le_length (by omega)]
    · have e1 : A.drop d = [] := List.drop_eq_nil_of_le (by omega)
      have e2 : (A ++ [x]).drop d = [] := List.drop_eq_nil_of_le (by rw [List.length_append, hlj]; simp; omega)
      rw [e1, e2]
      simp only [List.take_nil]
      split
      · split
        · rename_i m hm
          split
          · exfalso
            rename_i hs
            split at hm
            · omega
            · cases hm
          · rfl
        · rfl
      · rfl
theorem PRel.from_ (h : PRel S L lo) (p : Int) (seq : Nat) (most : Int) : fromX (onP 0 S.lo p) (onP [] S.R p) seq most = (outA L lo p seq most (cntA L p)).map strip := by
  rcases proc_cases p with ⟨k, rfl, hk⟩ | hp
  · rw [onP_yes _ _ _ hk, onP_yes _ _ _ hk, cntA_filt, h.outK k hk seq most _ (Nat.le_refl _), List.take_length, h.low k hk, h.row k hk]
    unfold fromX
    rw [List.map_take, List.map_drop, List.drop_drop]
    congr 2
    omega
  · have hc := h.cntI p
    rw [onP_no _ _ _ hp] at hc
    rw [onP_no _ _ _ hp, onP_no _ _ _ hp, ← hc]
    unfold fromX outA
    simp
theorem PRel.all (h : PRel S L lo) (k : Nat) (hk : k < 64) : (outAll L lo k).map strip = S.R k := by
  unfold outAll
  rw [cntA_filt, h.outK k hk 0 _ _ (Nat.le_refl _), List.take_length, h.row k hk, Int.toNat_natCast, List.take_of_length_le, ← List.map_drop]
  · congr 1
    congr 1
    omega
  · rw [List.length_drop]
    have := List.length_filter_le (fun m : Mg => m.f == (k : Int)) L
    unfold filtP
    omega
theorem PRel.above (h : PRel S L lo) (kk : K) : (catF S.R kk 64).map strip = (catF (outAll L lo) kk 64).map strip :=
  catF_strip S.R (outAll L lo) kk (fun p hp => by
    rw [← h.all p hp, List.map_map]
    rfl) 64 (Nat.le_refl _)
theorem above_mem (kk : K) (x : Mg) (hx : x ∈ catF (outAll L lo) kk 64) : x ∈ L := by
  obtain ⟨p, _, h, _⟩ := catF_mem (outAll L lo) kk x 64 hx
  exact outA_mem _ _ _ _ _ h
theorem rputL_mem (m x : Mg) (hx : x ∈ rputL L m) : x ∈ L ∨ x = m := by
  unfold rputL at hx
  split at hx
  · split at hx
    · rcases List.mem_append.1 hx with h | h
      · exact .inl h
      · exact .inr (List.mem_singleton.1 h)
    · exact .inl hx
  · exact .inl hx
theorem rputL_len (m : Mg) : (rputL L m).length ≤ L.length + 1 := by
  unfold rputL
  split
  · split
    · simp
    · omega
  · omega
end
end Go.Proofs.Ytfocjcdfpnbkjaa
