/- What All answers of two lists of the same messages. -/
import Derived.Test.YtfocjcdfpnbkjaaSMsg
set_option linter.unusedVariables false
set_option linter.unusedSimpArgs false
namespace Go.Proofs.Ytfocjcdfpnbkjaa
open Go.RowKit Go.Sort

set_option maxHeartbeats 4000000 in
theorem allG_any (ao bo : Option Addr) (len ac bc : Nat) (l r : List Mg) (w : World) (ha : Lst encG 6 w ao len l) (hb : Lst encG 6 w bo len r) (hd : ∀ m ∈ l, DpIn w m) (hd2 : ∀ m ∈ r, DpIn w m) (hdl : ∀ m ∈ l, m.dl ≤ 1048576)
    (hsm : ∀ (i : Nat) (x y : Mg), l[i]? = some x → r[i]? = some y → sameG x y = true) (hl : len ≤ 1048576) :
    Calls Try.prog 20 #[.slice ao len ac, .slice bo len bc] w fun e w' => e = .returned (.bool true) ∧ Grw w w' := by
  have HA := Lib.hid ha
  have HB := Lib.hid hb
  have HD := Lib.hid hd
  have HD2 := Lib.hid hd2
  have HDL := Lib.hid hdl
  have HSM := Lib.hid hsm
  have mixed : Try.prog.follows .mixedOrders = true := by kernel_rfl
  clear ha hb hd hd2 hdl hsm
  go_enter Try.func20, Try.ntmps20
  go_wp2
  go_loopw [5] (fun si wr => ∃ k : Nat, k ≤ len ∧ si = .int .i64 k ∧ Grw w wr) (fun si _ => len - (intOf si).toNat)
  case atStart => exact ⟨0, Nat.zero_le _, rfl, Grw.refl _⟩
  case round =>
    obtain ⟨k, hk, rfl, hGG⟩ := hrel
    have hB := hGG.below
    by_cases hlt : k < len
    · obtain ⟨b1, o1, x, rfl, hx, hb1, h1⟩ := HA.out.atG hlt
      obtain ⟨b2, o2, y, rfl, hy, hb2, h2⟩ := HB.out.atG hlt
      have hdx : DpIn wr x := (HD.out x (List.mem_of_getElem? hx)).below hB
      have hdy : DpIn wr y := (HD2.out y (List.mem_of_getElem? hy)).below hB
      have hs : ∀ n os, Calls Try.prog 69 #[.agg (encG x).toArray, .agg (encG y).toArray] (grow (wr.drewN n) os) fun e w' => e = .returned (.bool true) ∧ ∃ q os', w' = grow ((grow (wr.drewN n) os).drewN q) os' := fun n os => by
        have hd2 : DpIn (grow (wr.drewN n) os) x := hdx.below (Grw.below ⟨n, os, rfl⟩)
        have hd3 : DpIn (grow (wr.drewN n) os) y := hdy.below (Grw.below ⟨n, os, rfl⟩)
        have := sameG_any x y _ hd2 hd3 (HDL.out x (List.mem_of_getElem? hx))
        rw [HSM.out k x y hx hy] at this
        exact this
      have hbw := hB.size
      have c1 : ∀ c v, (encG x)[c]? = some v → ∀ n os, (grow (wr.drewN n) os).cell? ⟨b1, o1 + k * 6 + c, none⟩ = some v := fun c v hv => cell_grown (by show b1 < wr.heap.size; omega) (cell_later hB (h1 c v hv))
      have c2 : ∀ c v, (encG y)[c]? = some v → ∀ n os, (grow (wr.drewN n) os).cell? ⟨b2, o2 + k * 6 + c, none⟩ = some v := fun c v hv => cell_grown (by show b2 < wr.heap.size; omega) (cell_later hB (h2 c v hv))
      have HBB := Lib.hid hGG
      clear h1 h2 hx hy hdx hdy hbw hB hGG
      obtain ⟨f, q, s, v, a, dl, dc, deps, text⟩ := x
      obtain ⟨f', q', s', v', a', dl', dc', deps', text'⟩ := y
      simp only [encG] at hs
      have a0 := c1 0 _ rfl
      have a1 := c1 1 _ rfl
      have a2 := c1 2 _ rfl
      have a3 := c1 3 _ rfl
      have a4 := c1 4 _ rfl
      have a5 := c1 5 _ rfl
      have b0 := c2 0 _ rfl
      have b1 := c2 1 _ rfl
      have b2 := c2 2 _ rfl
      have b3 := c2 3 _ rfl
      have b4 := c2 4 _ rfl
      have b5 := c2 5 _ rfl
      simp only [Nat.add_zero] at a0 b0
      clear c1 c2
      go_wp2_with fail
      go_quiet_grown ((go_at_call 69; exact Calls.grown_of (hs _ _)))
      go_wp2_with fail
      go_roundw
      case rel => exact ⟨k + 1, by omega, by go_num, HBB.out.trans ⟨nq, osq, rfl⟩⟩
      case measure => simp [intOf]; omega
    · go_wp2
      go_ret
      exact ⟨rfl, hGG⟩
end Go.Proofs.Ytfocjcdfpnbkjaa
