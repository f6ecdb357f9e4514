/- The contract of the law's Few. -/
import Derived.Test.YtekgkeapdlgobaaSame
set_option linter.unusedVariables false
set_option linter.unusedSimpArgs false
namespace Go.Proofs.Ytekgkeapdlgobaa
open Go.RowKit Go.Sort

theorem below_drewN' {B : Nat} {a w : World} (h : Below B a w) (n : Nat) : Below B a (w.drewN n) := ⟨h.os, h.tape, h.output, h.size, h.block⟩

/-- What Few answers: if yes, the messages are at most 300, and their Deps few. -/
def FewSaid (w : World) (len : Nat) (l : List Msg) (e : Ending) (w' : World) : Prop :=
  (e = .returned (.bool false) ∨ e = .returned (.bool true) ∧ len ≤ 300 ∧ ∀ m ∈ l, m.dl ≤ 20000) ∧ Below w.heap.size w w'

set_option maxHeartbeats 4000000 in
theorem few_any (ao : Option Addr) (len cap : Nat) (l : List Msg) (w : World) (h : Lst encM 6 w ao len l) :
    Calls Try.prog 20 #[.slice ao len cap] w (FewSaid w len l) := by
  have HA := Lib.hid h
  have mixed : Try.prog.follows .mixedOrders = true := by kernel_rfl
  clear h
  go_enter Try.func20, Try.ntmps20
  go_wp2
  go_loopw [3, 4] (fun sn si wr => ∃ (k : Nat) (n : Int), k ≤ len ∧ k ≤ 300 ∧ 0 ≤ n ∧ n ≤ 20000 ∧ si = .int .i64 k ∧ sn = .int .i64 n ∧ Below w.heap.size w wr ∧ Hid (∀ m ∈ l.take k, m.dl ≤ 20000)) (fun _ si _ => 301 - (intOf si).toNat)
  case atStart => exact ⟨0, 0, Nat.zero_le _, by omega, by omega, by omega, rfl, rfl, Below.refl _ _, Lib.hid fun m hm => by simp at hm⟩
  case round =>
    obtain ⟨k, n, hk, hk3, hn0, hn1, rfl, rfl, hB, HT⟩ := hrel
    by_cases hlt : k < len
    · obtain ⟨b1, o1, x, rfl, hx, hb1, h1⟩ := HA.out.at_ hlt
      have hkl := (List.getElem?_eq_some_iff.1 hx).1
      have HTK := Lib.hid (show l.take (k + 1) = l.take k ++ [x] by rw [List.take_succ_eq_append_getElem hkl, (List.getElem?_eq_some_iff.1 hx).2])
      have a4 : wr.cell? ⟨b1, o1 + k * 6 + 4, none⟩ = some (.slice x.a x.dl x.dc) := cell_later hB (h1 4 _ rfl)
      have a5 : wr.cell? ⟨b1, o1 + k * 6 + 5, none⟩ = some (.string x.text) := cell_later hB (h1 5 _ rfl)
      have HBB := Lib.hid hB
      clear h1 hx hkl hB
      generalize x.a = xa at *
      generalize x.dc = xc at *
      generalize x.text = xt at *
      obtain ⟨dl, hdl⟩ : ∃ dl, dl = x.dl := ⟨_, rfl⟩
      rw [← hdl] at a4
      have HDL := Lib.hid hdl
      clear hdl
      go_wp2
      go_quiet (fail)
      obtain ⟨n2, hn2⟩ : ∃ n2, n2 = n + 1 + min (xt.size : Int) 20000 + min (dl : Int) 20000 := ⟨_, rfl⟩
      have m1 : 0 ≤ n2 := by omega
      have m2 : n2 ≤ 60001 := by omega
      have m3 : n2 ≤ 20000 → dl ≤ 20000 := by omega
      rw [← hn2]
      clear hn2 a4 a5
      by_cases hk2 : k < 300
      · have hkz : ¬ (300 : Int) ≤ (k : Int) := by omega
        by_cases hn2 : n2 ≤ 20000
        · have hdl := m3 hn2
          have HD2 : Hid (x.dl ≤ 20000) := Lib.hid (by rw [← HDL.out]; exact hdl)
          have hnz : ¬ 20000 < n2 := by omega
          clear m3
          go_wp2
          go_roundw
          case rel =>
            refine ⟨k + 1, n2, by omega, by omega, m1, hn2, by go_num, rfl, below_drewN' HBB.out _, Lib.hid fun m hm => ?_⟩
            rw [HTK.out] at hm
            rcases List.mem_append.1 hm with e | e
            · exact HT.out m e
            · rw [List.mem_singleton.1 e]; exact HD2.out
          case measure => simp [intOf]; omega
        · have hnz : 20000 < n2 := by omega
          clear m3 hn2
          go_wp2
          go_ret
          exact ⟨.inl rfl, below_drewN' HBB.out _⟩
      · have hkz : (300 : Int) ≤ (k : Int) := by omega
        clear m3 hk2
        go_wp2
        go_ret
        exact ⟨.inl rfl, below_drewN' HBB.out _⟩
    · go_wp2
      go_ret
      exact ⟨.inr ⟨rfl, by omega, fun m hm => HT.out m (by rw [List.take_of_length_le (by rw [HA.out.size]; omega)]; exact hm)⟩, hB⟩
end Go.Proofs.Ytekgkeapdlgobaa
