/- Layer 15: Few; what both Fews say of what came in. -/
import Derived.Test.YtmaiphgmnammgaaDoorZPlOpen
set_option linter.unusedVariables false
set_option maxRecDepth 100000
set_option linter.unusedSimpArgs false
namespace Go.Proofs.YtmaiphgmnammgaaDoor
open Go.RowKit Go.Sort Go.Shelf Go.Maps

/-- What Few answers: if yes, the exchanges are at most 80. -/
def FewX (w : World) (n : Nat) (e : Ending) (w' : World) : Prop := (e = .returned (.bool false) ∨ e = .returned (.bool true) ∧ n ≤ 80) ∧ w = w'
set_option maxHeartbeats 1000000 in
theorem pfew {w : World} {ao : Option Addr} {n : Nat} {l : List Xg} (h : XgL w ao n l) (c : Nat) :
    Calls Tryd.prog 37 #[.slice ao n c] w (FewX w n) := by
  have HL := Lib.hid h
  clear h
  go_enter Tryd.func37, Tryd.ntmps37
  go_wp2
  go_loop [3, 4] (fun sm si => ∃ (k : Nat) (m : Int), k ≤ n ∧ k ≤ 80 ∧ 0 ≤ m ∧ m ≤ 5000 ∧ sm = .int .i64 m ∧ si = .int .i64 k) (fun _ si => 81 - (intOf si).toNat)
  case atStart => exact ⟨0, 0, Nat.zero_le _, by omega, by omega, by omega, rfl, rfl⟩
  case round =>
    obtain ⟨k, m, hk, hk8, hm0, hm1, rfl, rfl⟩ := hrel
    by_cases hlt : k < n
    · obtain ⟨b, o, x, rfl, hx, hr⟩ := HL.out.row hlt
      have c3 : w.cell? ⟨b, o + k * 6 + 3, none⟩ = some (.slice x.a x.n x.c) := hr 3 _ rfl
      obtain ⟨xn, hxn⟩ : ∃ xn, xn = x.n := ⟨_, rfl⟩
      rw [← hxn] at c3
      generalize x.a = xa at *
      generalize x.c = xc at *
      obtain ⟨z, hz⟩ : ∃ z : Int, z = if (5000 : Int) < (xn : Int) then 5000 else (xn : Int) := ⟨_, rfl⟩
      have hz0 : 0 ≤ z := by rw [hz]; split <;> omega
      have hz1 : z ≤ 5000 := by rw [hz]; split <;> omega
      have HZ := Lib.hid hz.symm
      clear hx hr hxn hz
      by_cases hb : 80 ≤ k
      · have hd : decide ((80 : Int) ≤ (k : Int)) = true := decide_eq_true (by omega)
        go_wp2_with (with_reducible refine step_min2 rfl (.tmp 17) (.const (.int .i64 5000)) _ _ rfl .i64 (xn : Int) 5000 z rfl rfl HZ.out ?_)
        go_ret
        exact ⟨.inl rfl, rfl⟩
      · have hd : decide ((80 : Int) ≤ (k : Int)) = false := decide_eq_false (by omega)
        cases ht : decide (5000 < m + z) with
        | true =>
          go_wp2_with (with_reducible refine step_min2 rfl (.tmp 17) (.const (.int .i64 5000)) _ _ rfl .i64 (xn : Int) 5000 z rfl rfl HZ.out ?_)
          go_ret
          exact ⟨.inl rfl, rfl⟩
        | false =>
          have ht2 := of_decide_eq_false ht
          go_wp2_with (with_reducible refine step_min2 rfl (.tmp 17) (.const (.int .i64 5000)) _ _ rfl .i64 (xn : Int) 5000 z rfl rfl HZ.out ?_)
          go_round
          case rel => exact ⟨k + 1, m + z, by omega, by omega, by omega, by omega, rfl, by go_num⟩
          case measure => simp [intOf]; omega
    · obtain rfl : k = n := by omega
      go_wp2
      go_ret
      exact ⟨.inr ⟨rfl, hk8⟩, rfl⟩
end Go.Proofs.YtmaiphgmnammgaaDoor
