/- The number above all of a list: the program's and the document's. -/
import Derived.Test.YtekgkeapdlgobaaKeys
set_option linter.unusedVariables false
set_option linter.unusedSimpArgs false
namespace Go.Proofs.Ytekgkeapdlgobaa
open Go.RowKit Go.Sort

/-- The greatest number of a list, 0 counts as one. -/
def maxl : Int → List Int → Int
  | m, [] => m
  | m, x :: r => maxl (if m < x then x else m) r
theorem maxl_append (m : Int) (l r : List Int) : maxl m (l ++ r) = maxl (maxl m l) r := by
  induction l generalizing m with
  | nil => rfl
  | cons x t ih => exact ih _
theorem maxl_next (l : List Int) (k : Nat) (x : Int) (hx : l[k]? = some x) : maxl 0 (l.take (k + 1)) = if maxl 0 (l.take k) < x then x else maxl 0 (l.take k) := by
  obtain ⟨hlt, rfl⟩ := List.getElem?_eq_some_iff.1 hx
  rw [List.take_succ_eq_append_getElem hlt, maxl_append]
  rfl
theorem maxl_ge (m : Int) (l : List Int) : m ≤ maxl m l ∧ ∀ x ∈ l, x ≤ maxl m l := by
  induction l generalizing m with
  | nil => exact ⟨Int.le_refl _, fun _ h => by cases h⟩
  | cons y r ih =>
    obtain ⟨h1, h2⟩ := ih (if m < y then y else m)
    have e : maxl m (y :: r) = maxl (if m < y then y else m) r := rfl
    rw [e]
    refine ⟨by split at h1 <;> (rename_i hc; first | omega | (rw [if_pos hc]; omega) | (rw [if_neg hc]; omega)), fun x hx => ?_⟩
    rcases List.mem_cons.1 hx with rfl | hx
    · by_cases hc : m < x
      · rw [if_pos hc] at h1 ⊢; exact h1
      · rw [if_neg hc] at h1 ⊢; omega
    · exact h2 x hx
theorem maxl_mem (m : Int) (l : List Int) : maxl m l = m ∨ maxl m l ∈ l := by
  induction l generalizing m with
  | nil => exact .inl rfl
  | cons y r ih =>
    have e : maxl m (y :: r) = maxl (if m < y then y else m) r := rfl
    rw [e]
    rcases ih (if m < y then y else m) with h | h
    · rw [h]
      by_cases hc : m < y
      · rw [if_pos hc]; exact .inr (List.mem_cons_self ..)
      · rw [if_neg hc]; exact .inl rfl
    · exact .inr (List.mem_cons_of_mem _ h)
/-- One more, at most the greatest number. -/
def up1 (n : Int) : Int := if n = 18446744073709551615 then n else n + 1

/-- A list of numbers of 64 bits. -/
def encU (a : Int) : List Value := [.int .u64 a]
def Bd64 (l : List Int) : Prop := ∀ v ∈ l, 0 ≤ v ∧ v ≤ 18446744073709551615
theorem maxl_bd (l : List Int) (h : Bd64 l) : 0 ≤ maxl 0 l ∧ maxl 0 l ≤ 18446744073709551615 := by
  refine ⟨(maxl_ge 0 l).1, ?_⟩
  rcases maxl_mem 0 l with e | e
  · omega
  · exact (h _ e).2
theorem Bd64.take {l : List Int} (h : Bd64 l) (k : Nat) : Bd64 (l.take k) := fun v hv => h v (List.mem_of_mem_take hv)

theorem sum1 (a : Int) (w : World) (ha : 0 ≤ a) (ha' : a ≤ 18446744073709551615) :
    Calls Try.prog 34 #[.int .u64 a, .int .u64 1] w fun e w' => e = .returned (.int .u64 (up1 a)) ∧ w = w' := by
  by_cases h : a = 18446744073709551615
  · have e : up1 a = 18446744073709551615 := by unfold up1; rw [if_pos h]; exact h
    rw [e]
    have h2 : 18446744073709551614 < a := by omega
    clear e h
    go_enter Try.func34, Try.ntmps34
    go_wp2
    go_ret
    exact ⟨rfl, rfl⟩
  · have e : up1 a = a + 1 := by unfold up1; rw [if_neg h]
    rw [e]
    have h2 : ¬ 18446744073709551614 < a := by omega
    have h3 : a + 1 ≤ 18446744073709551615 := by omega
    clear e h
    go_enter Try.func34, Try.ntmps34
    go_wp2
    go_ret
    exact ⟨rfl, rfl⟩

set_option maxHeartbeats 1000000 in
theorem greatU_any (ao : Option Addr) (len cap : Nat) (l : List Int) (w : World) (h : Lst encU 1 w ao len l) (hb : Bd64 l) (hl : len ≤ 1099511627776) :
    Calls Try.prog 35 #[.slice ao len cap, .func (.func 27) #[] #[]] w fun e w' => e = .returned (.int .u64 (maxl 0 l)) ∧ w = w' := by
  have HL := Lib.hid h.size
  have HS := Lib.hid h
  have HB := Lib.hid hb
  clear h hb
  go_enter Try.func35, Try.ntmps35
  go_wp2
  go_loop [5, 10] (fun m si => ∃ k : Nat, k ≤ len ∧ si = .int .i64 k ∧ m = .int .u64 (maxl 0 (l.take k)))
    (fun _ si => len - (intOf si).toNat)
  case atStart => exact ⟨0, Nat.zero_le _, rfl, rfl⟩
  case round =>
    obtain ⟨k, hk, rfl, rfl⟩ := hrel
    by_cases hlt : k < len
    · obtain ⟨b, o, rfl, hr⟩ := HS.out.src (by omega)
      have hlt' : k < l.length := by rw [HL.out]; exact hlt
      obtain ⟨x, hx⟩ : ∃ x, l[k]? = some x := ⟨_, List.getElem?_eq_getElem hlt'⟩
      have e0 : w.cell? ⟨b, o + k, none⟩ = some (.int .u64 x) := by have := hr k x hx 0 _ rfl; simpa using this
      have HN := Lib.hid (maxl_next l k x hx)
      have h0 := (HB.out x (List.mem_of_getElem? hx)).1
      have hz : k = 0 → maxl 0 (l.take k) = 0 := fun e => by subst e; rfl
      have hbd := maxl_bd _ (HB.out.take k)
      clear hr hx hlt'
      generalize maxl 0 (l.take k) = m at *
      by_cases hk0 : k = 0
      · have hd : ((k : Int) == 0) = true := by simp; omega
        have HE : Hid (maxl 0 (l.take (k + 1)) = x) := by
          refine Lib.hid ?_
          rw [HN.out, hz hk0]
          split <;> omega
        clear HN hk0 hz hbd
        go_wp2
        go_round
        case rel => exact ⟨k + 1, by omega, by go_num, by rw [HE.out]⟩
        case measure => simp [intOf]; omega
      · have hd : ((k : Int) == 0) = false := by simp; omega
        clear hk0 hz hbd
        by_cases hr : m < x
        · have HE := Lib.hid (HN.out.trans (if_pos hr))
          have hc : ∀ W, Calls Try.prog 27 #[.int .u64 x, .int .u64 m] W fun e w' => e = .returned (.int .i64 1) ∧ W = w' := fun W => by have := cmpU x m W; rwa [kc_gt hr] at this
          clear HN hr
          go_wp2_with fail
          refine (hc _).mono ?_
          rintro e w' ⟨rfl, rfl⟩
          go_wp2
          go_round
          case rel => exact ⟨k + 1, by omega, by go_num, by rw [HE.out]⟩
          case measure => simp [intOf]; omega
        · have HE := Lib.hid (HN.out.trans (if_neg hr))
          have hc : ∀ W, ∃ r : Int, r ≤ 0 ∧ Calls Try.prog 27 #[.int .u64 x, .int .u64 m] W fun e w' => e = .returned (.int .i64 r) ∧ W = w' := fun W => ⟨kc x m, by unfold kc; split <;> (try split) <;> omega, cmpU x m W⟩
          obtain ⟨r, hr0, hc⟩ := hc w
          clear HN hr
          go_wp2_with fail
          refine hc.mono ?_
          rintro e w' ⟨rfl, rfl⟩
          go_wp2
          go_round
          case rel => exact ⟨k + 1, by omega, by go_num, by rw [HE.out]⟩
          case measure => simp [intOf]; omega
    · have HK := Lib.hid (show l.take k = l from List.take_of_length_le (by rw [HL.out]; omega))
      go_wp2
      go_ret
      exact ⟨by rw [HK.out]; rfl, rfl⟩

theorem above_any (ao : Option Addr) (len cap : Nat) (l : List Int) (w : World) (h : Lst encU 1 w ao len l) (hb : Bd64 l) (hl : len ≤ 1099511627776) :
    Calls Try.prog 18 #[.slice ao len cap] w fun e w' => e = .returned (.int .u64 (up1 (maxl 0 l))) ∧ w = w' := by
  have hbd := maxl_bd l hb
  have hg := greatU_any ao len cap l w h hb hl
  have hs := fun W => sum1 (maxl 0 l) W hbd.1 hbd.2
  clear hbd h hb
  generalize maxl 0 l = m at *
  go_enter Try.func18, Try.ntmps18
  go_wp2_with fail
  refine hg.mono ?_
  rintro e w' ⟨rfl, rfl⟩
  go_wp2_with fail
  refine (hs _).mono ?_
  rintro e w' ⟨rfl, rfl⟩
  go_wp2
  go_ret
  exact ⟨rfl, rfl⟩

set_option maxHeartbeats 1000000 in
theorem refAbove_any (ao : Option Addr) (len cap : Nat) (l : List Int) (w : World) (h : Lst encU 1 w ao len l) (hb : Bd64 l) (hl : len ≤ 1099511627776) :
    Calls Try.prog 19 #[.slice ao len cap] w fun e w' => e = .returned (.int .u64 (up1 (maxl 0 l))) ∧ w = w' := by
  have HL := Lib.hid h.size
  have HS := Lib.hid h
  have HB := Lib.hid hb
  clear h hb
  go_enter Try.func19, Try.ntmps19
  go_wp2
  go_loop [3, 4] (fun m si => ∃ k : Nat, k ≤ len ∧ si = .int .i64 k ∧ m = .int .u64 (maxl 0 (l.take k)))
    (fun _ si => len - (intOf si).toNat)
  case atStart => exact ⟨0, Nat.zero_le _, rfl, rfl⟩
  case round =>
    obtain ⟨k, hk, rfl, rfl⟩ := hrel
    by_cases hlt : k < len
    · obtain ⟨b, o, rfl, hr⟩ := HS.out.src (by omega)
      have hlt' : k < l.length := by rw [HL.out]; exact hlt
      obtain ⟨x, hx⟩ : ∃ x, l[k]? = some x := ⟨_, List.getElem?_eq_getElem hlt'⟩
      have e0 : w.cell? ⟨b, o + k, none⟩ = some (.int .u64 x) := by have := hr k x hx 0 _ rfl; simpa using this
      have HN := Lib.hid (maxl_next l k x hx)
      clear hr hx hlt'
      generalize maxl 0 (l.take k) = m at *
      by_cases hr : m < x
      · have HE := Lib.hid (HN.out.trans (if_pos hr))
        clear HN
        go_wp2
        go_round
        case rel => exact ⟨k + 1, by omega, by go_num, by rw [HE.out]⟩
        case measure => simp [intOf]; omega
      · have HE := Lib.hid (HN.out.trans (if_neg hr))
        clear HN
        go_wp2
        go_round
        case rel => exact ⟨k + 1, by omega, by go_num, by rw [HE.out]⟩
        case measure => simp [intOf]; omega
    · have HK := Lib.hid (show l.take k = l from List.take_of_length_le (by rw [HL.out]; omega))
      have hbd := maxl_bd l HB.out
      rw [HK.out]
      obtain ⟨m, hu⟩ : ∃ m, m = maxl 0 l := ⟨_, rfl⟩
      rw [← hu] at hbd ⊢
      by_cases hm : m = 18446744073709551615
      · have HU := Lib.hid (show up1 (maxl 0 l) = m by rw [← hu]; unfold up1; rw [if_pos hm])
        have hd : (m == 18446744073709551615) = true := by simp; exact hm
        clear hu hm
        go_wp2
        go_ret
        exact ⟨by rw [HU.out]; rfl, rfl⟩
      · have HU := Lib.hid (show up1 (maxl 0 l) = m + 1 by rw [← hu]; unfold up1; rw [if_neg hm])
        have hd : (m == 18446744073709551615) = false := by simp; exact hm
        have h2 : m + 1 ≤ 18446744073709551615 := by omega
        clear hu hm
        go_wp2
        go_ret
        exact ⟨by rw [HU.out]; rfl, rfl⟩
end Go.Proofs.Ytekgkeapdlgobaa
