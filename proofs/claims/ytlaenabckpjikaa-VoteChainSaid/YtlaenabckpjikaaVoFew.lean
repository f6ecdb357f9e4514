/- Layer 18: Few. -/
import Derived.Test.YtlaenabckpjikaaVoOpen
set_option linter.unusedVariables false
set_option maxRecDepth 100000
set_option linter.unusedSimpArgs false
namespace Go.Proofs.Ytlaenabckpjikaa
open Go.RowKit Go.Sort Go.Maps

theorem sumP_take {l : List Rc} {k : Nat} {x : Rc} (h : l[k]? = some x) : sumP (psL (l.take (k + 1))) = sumP (psL (l.take k)) + x.p.pend.length := by rw [psL_take h, sumP_snoc]
set_option maxHeartbeats 1000000 in
theorem vfew {w : World} {ao : Option Addr} {n : Nat} {l : List Rc} (h : RcL w ao n l) (c : Nat) (hk : ∀ x ∈ l, x.k ≤ 4398046511104) :
    Calls Try.prog 8 #[.slice ao n c] w fun e w' => (e = .returned (.bool false) ∨ e = .returned (.bool true) ∧ n + sumP (psL l) ≤ 300) ∧ w = w' := by
  have HL := Lib.hid h
  have HLEN := Lib.hid h.at_.size
  have HK := Lib.hid hk
  clear h hk
  go_enter Try.func8, Try.ntmps8
  go_wp2
  go_loop [3, 4] (fun sm si => ∃ (k m : Nat), k ≤ n ∧ m ≤ 300 ∧ k + sumP (psL (l.take k)) = m ∧ sm = .int .i64 m ∧ si = .int .i64 k) (fun _ si => 301 - (intOf si).toNat)
  case atStart => exact ⟨0, 0, Nat.zero_le _, by omega, rfl, rfl, rfl⟩
  case round =>
    obtain ⟨k, m, hk, hm, hs, rfl, rfl⟩ := hrel
    by_cases hlt : k < n
    · obtain ⟨b, o, x, rfl, hx, hr, hin⟩ := HL.out.row hlt
      have c4 : w.cell? ⟨b, o + k * 5 + 4, none⟩ = some (.slice x.a x.k x.c) := hr 4 _ rfl
      have hxk := HK.out x (List.mem_of_getElem? hx)
      have hlen := hin.len
      have HS := Lib.hid (sumP_take hx)
      obtain ⟨xn, hxn⟩ : ∃ xn, xn = x.k := ⟨_, rfl⟩
      rw [← hxn] at c4 hxk hlen
      rw [hlen] at HS
      generalize x.a = xa at *
      generalize x.c = xc at *
      clear hx hr hin hxn hlen
      by_cases hgt : 300 < m + 1 + xn
      · have hgt2 : (300 : Int) < (m : Int) + 1 + (xn : Int) := by omega
        go_wp2
        go_ret
        exact ⟨.inl rfl, rfl⟩
      · have hgt2 : ¬(300 : Int) < (m : Int) + 1 + (xn : Int) := by omega
        go_wp2
        go_round
        case rel => exact ⟨k + 1, m + 1 + xn, by omega, by omega, by rw [HS.out]; omega, by go_num, by go_num⟩
        case measure => simp [intOf]; omega
    · obtain rfl : k = n := by omega
      have HF := Lib.hid (show k + sumP (psL l) ≤ 300 by
        rw [List.take_of_length_le (by rw [HLEN.out]; exact Nat.le_refl _)] at hs
        omega)
      go_wp2
      go_ret
      exact ⟨.inr ⟨rfl, HF.out⟩, rfl⟩
end Go.Proofs.Ytlaenabckpjikaa
