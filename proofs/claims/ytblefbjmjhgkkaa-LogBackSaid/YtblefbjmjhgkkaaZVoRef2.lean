/- Layer 18: the document's Views and Next. -/
import Derived.Test.YtblefbjmjhgkkaaZVoRef
set_option linter.unusedVariables false
set_option maxRecDepth 100000
set_option linter.unusedSimpArgs false
namespace Go.Proofs.Ytblefbjmjhgkkaa
open Go.RowKit Go.Sort Go.Maps

theorem drewN_below (w : World) (n : Nat) : Below w.heap.size w (w.drewN n) := ⟨rfl, rfl, rfl, Nat.le_refl _, fun _ _ => rfl⟩
theorem take_next_eq {α : Type} {A B : List α} {k : Nat} {x y : α} (hx : A[k]? = some x) (hy : B[k]? = some y) (h : A.take k = B.take k) : (A.take (k + 1) = B.take (k + 1)) ↔ x = y := by
  rw [take_snocV hx, take_snocV hy, h]
  constructor
  · intro e
    have := List.append_cancel_left e
    simpa using this
  · intro e; rw [e]
theorem ne_of_at {α : Type} {A B : List α} {k : Nat} {x y : α} (hx : A[k]? = some x) (hy : B[k]? = some y) (h : x ≠ y) : A ≠ B := by
  intro e
  rw [e, hy] at hx
  exact h (Option.some.inj hx).symm
set_option maxHeartbeats 4000000 in
theorem rviews {w : World} {ao bo : Option Addr} {n m : Nat} {A B : List Vw} (hA : VwL w ao n A) (hB : VwL w bo m B) (c d : Nat) (hn : n ≤ 100000) (hm : m ≤ 100000) :
    Calls Try.prog 41 #[.slice ao n c, .slice bo m d] w fun e w' => e = .returned (.bool (decide (A = B))) ∧ Below w.heap.size w w' := by
  have HA := Lib.hid hA
  have HB := Lib.hid hB
  have HLA := Lib.hid hA.at_.size
  have HLB := Lib.hid hB.at_.size
  clear hA hB
  go_enter Try.func41, Try.ntmps41
  by_cases hnm : n = m
  case neg =>
    have HD := Lib.hid (show decide (A = B) = false from decide_eq_false fun e => hnm (by rw [← HLA.out, ← HLB.out, e]))
    have hz : ¬(n : Int) = (m : Int) := by omega
    have hz2 : ((n : Int) != (m : Int)) = true := by simpa using hz
    have HW := Lib.hid (Below.refl w.heap.size w)
    go_wp2
    go_ret
    exact ⟨by rw [HD.out]; rfl, HW.out⟩
  case pos =>
    subst hnm
    have hz2 : ((n : Int) != (n : Int)) = false := by simp
    have W0 := Lib.hid (Below.refl w.heap.size w)
    go_wp2
    go_loopw [5] (fun si wr => ∃ k : Nat, k ≤ n ∧ si = .int .i64 k ∧ Aside (Below w.heap.size w wr) ∧ Aside (A.take k = B.take k)) (fun si _ => n - (intOf si).toNat)
    case atStart => exact ⟨0, Nat.zero_le _, rfl, W0.out, rfl⟩
    case round =>
      obtain ⟨k, hk, rfl, HBW, HT⟩ := hrel
      by_cases hlt : k < n
      · obtain ⟨b1, o1, x, rfl, hx, hrx, _⟩ := (HA.out.below HBW.out).row hlt
        obtain ⟨b2, o2, y, rfl, hy, hry, _⟩ := (HB.out.below HBW.out).row hlt
        have HXY := Lib.hid (take_next_eq hx hy HT.out)
        have HNE := Lib.hid (ne_of_at hx hy)
        have hq := fun w => neq_vw x y w
        obtain ⟨bb, hbb⟩ : ∃ bb, bb = decide (x = y) := ⟨_, rfl⟩
        rw [← hbb] at hq
        have HBB := Lib.hid hbb
        clear hx hy hbb HT
        obtain ⟨xn, xe, xr, xm⟩ := x
        obtain ⟨yn, ye, yr, ym⟩ := y
        unfold valV encV at hq
        have x0 : wr.cell? ⟨b1, o1 + k * 4, none⟩ = some (.int .u64 (xn : Int)) := hrx 0 _ rfl
        have x1 : wr.cell? ⟨b1, o1 + k * 4 + 1, none⟩ = some (.int .u64 (xe : Int)) := hrx 1 _ rfl
        have x2 : wr.cell? ⟨b1, o1 + k * 4 + 2, none⟩ = some (.int .i64 xr) := hrx 2 _ rfl
        have x3 : wr.cell? ⟨b1, o1 + k * 4 + 3, none⟩ = some (.int .u64 (xm : Int)) := hrx 3 _ rfl
        have y0 : wr.cell? ⟨b2, o2 + k * 4, none⟩ = some (.int .u64 (yn : Int)) := hry 0 _ rfl
        have y1 : wr.cell? ⟨b2, o2 + k * 4 + 1, none⟩ = some (.int .u64 (ye : Int)) := hry 1 _ rfl
        have y2 : wr.cell? ⟨b2, o2 + k * 4 + 2, none⟩ = some (.int .i64 yr) := hry 2 _ rfl
        have y3 : wr.cell? ⟨b2, o2 + k * 4 + 3, none⟩ = some (.int .u64 (ym : Int)) := hry 3 _ rfl
        clear hrx hry
        go_upto_region 6 with fail
        go_quiet (fail)
        have HB3 := Lib.hid (HBW.out.trans ((drewN_below wr nq).mono HBW.out.size))
        clear hq x0 x1 x2 x3 y0 y1 y2 y3
        cases bb with
        | true =>
          have HT2 := Lib.hid (HXY.out.2 (of_decide_eq_true HBB.out.symm))
          go_wp2
          go_roundw
          case rel => exact ⟨k + 1, by omega, by go_num, HB3.out, HT2.out⟩
          case measure => simp [intOf]; omega
        | false =>
          have HD := Lib.hid (show decide (A = B) = false from decide_eq_false (HNE.out (of_decide_eq_false HBB.out.symm)))
          go_wp2
          go_ret
          exact ⟨by rw [HD.out]; rfl, HB3.out⟩
      · obtain rfl : n = k := by omega
        have HD := Lib.hid (show decide (A = B) = true from decide_eq_true (by
          have := HT.out
          rw [List.take_of_length_le (by rw [HLA.out]; exact Nat.le_refl _), List.take_of_length_le (by rw [HLB.out]; exact Nat.le_refl _)] at this
          exact this))
        go_wp2
        go_ret
        exact ⟨by rw [HD.out]; rfl, HBW.out⟩
theorem mx_gt (a b : Nat) (h : a < b) : max a b = b := by omega
theorem mx_le (a b : Nat) (h : ¬a < b) : max a b = a := by omega
end Go.Proofs.Ytblefbjmjhgkkaa
