/- Plans: does one lean on what is behind an end? -/
import Derived.Test.YthgdiihibjnhoaaPlFns
set_option linter.unusedVariables false
set_option maxRecDepth 100000
set_option linter.unusedSimpArgs false
namespace Go.Proofs.Ythgdiihibjnhoaa
open Go.RowKit Go.Sort Go.Shelf

/-- .. as a truth. -/
noncomputable def leantB (e : Nat → Int) (deps : List Int) : Bool := @decide (leantE e deps) (Classical.propDecidable _)
theorem leant_iff {e : Nat → Int} {deps : List Int} : leantB e deps = true ↔ leantE e deps := by unfold leantB; exact @decide_eq_true_iff _ (Classical.propDecidable _)
theorem leant_not {e : Nat → Int} {deps : List Int} (h : ∀ (q : Nat) (d : Int), deps[q]? = some d → d < endAt e (q : Int)) : leantB e deps = false := by
  cases hb : leantB e deps with
  | false => rfl
  | true =>
    obtain ⟨q, d, h1, h2⟩ := leant_iff.1 hb
    have := h q d h1
    omega
/-- Deps are numbers of their kind. -/
def DepsOk (deps : List Int) : Prop := ∀ d ∈ deps, 0 ≤ d ∧ d < 4294967296
section
variable {w : World} {b : Nat} {e : Nat → Int}
set_option maxHeartbeats 1000000 in
theorem pleant (h : EnB w b e) (a : Option Addr) (dl dc : Nat) (deps : List Int) (hd : Lst (fun n : Int => [.int .u32 n]) 1 w a dl deps) (hok : DepsOk deps) (hdl : dl ≤ 1048576) :
    Calls Try.prog 31 #[.pointer (some ⟨b, 0, none⟩), .slice a dl dc] w fun ee w' => ee = .returned (.bool (leantB e deps)) ∧ w = w' := by
  have HL := Lib.hid hd.size
  have HD := Lib.hid hd
  have PO := fun k (h1 : k < 1048577) => pof h (k : Nat) (by omega) (by omega)
  have HOK := Lib.hid hok
  clear h hd hok
  go_enter Try.func31, Try.ntmps31
  go_wp2
  go_loop [9] (fun i => ∃ k : Nat, k ≤ dl ∧ i = .int .i64 k ∧ Hid (∀ (q : Nat) (d : Int), q < k → deps[q]? = some d → d < endAt e (q : Int))) (fun i => dl - (intOf i).toNat)
  case atStart => exact ⟨0, Nat.zero_le _, rfl, Lib.hid fun q d hq => absurd hq (Nat.not_lt_zero _)⟩
  case round =>
    obtain ⟨k, hk, rfl, HN⟩ := hrel
    by_cases hlt : k < dl
    · obtain ⟨bx, ox, rfl, hr⟩ := HD.out.src (by omega)
      have hlt' : k < deps.length := by rw [HL.out]; exact hlt
      obtain ⟨x, hx⟩ : ∃ x, deps[k]? = some x := ⟨_, List.getElem?_eq_getElem hlt'⟩
      have c0 : w.cell? ⟨bx, ox + k, none⟩ = some (.int .u32 x) := by have := hr k x hx 0 _ rfl; simpa using this
      obtain ⟨x0, x1⟩ := HOK.out x (List.mem_of_getElem? hx)
      have hwr : IntKind.u64.wrap x = x := by obtain ⟨j, rfl⟩ := Int.eq_ofNat_of_zero_le x0; exact wrap_nat j (by omega)
      have POk := PO k (by omega)
      obtain ⟨u, hu⟩ : ∃ u, u = endAt e (k : Int) := ⟨_, rfl⟩
      rw [← hu] at POk
      have HU := Lib.hid hu
      have HX := Lib.hid hx
      clear hu hx hr hlt' PO
      cases hle : decide (u ≤ x) with
      | true =>
        have HB := Lib.hid (leant_iff.2 ⟨k, x, HX.out, by rw [← HU.out]; exact of_decide_eq_true hle⟩ : leantB e deps = true)
        go_wp2_with (go_at_call 32; (with_reducible refine POk.mono ?_); rintro e' w' ⟨rfl, rfl⟩)
        go_ret
        exact ⟨by rw [HB.out]; rfl, rfl⟩
      | false =>
        have HN2 := Lib.hid (show ∀ (q : Nat) (d : Int), q < k + 1 → deps[q]? = some d → d < endAt e (q : Int) from fun q d hq hd => by
          by_cases hqk : q = k
          · subst hqk; rw [HX.out] at hd; cases hd; rw [← HU.out]; have := of_decide_eq_false hle; omega
          · exact HN.out q d (by omega) hd)
        go_wp2_with (go_at_call 32; (with_reducible refine POk.mono ?_); rintro e' w' ⟨rfl, rfl⟩)
        go_round
        case rel => exact ⟨k + 1, by omega, by go_num, HN2⟩
        case measure => simp [intOf]; omega
    · obtain rfl : k = dl := by omega
      have HB := Lib.hid (leant_not fun q d hd => HN.out q d (by have := (List.getElem?_eq_some_iff.1 hd).1; rw [HL.out] at this; exact this) hd : leantB e deps = false)
      go_wp2
      go_ret
      exact ⟨by rw [HB.out]; rfl, rfl⟩
end
end Go.Proofs.Ythgdiihibjnhoaa
