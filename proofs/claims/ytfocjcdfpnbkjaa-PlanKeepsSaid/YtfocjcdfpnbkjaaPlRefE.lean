/- Layer 15: the document's own answers: counts. -/
import Derived.Test.YtfocjcdfpnbkjaaPlRefA
import Derived.Deep.DeepCutAuto
import Derived.BigQuiet
set_option linter.unusedVariables false
set_option maxRecDepth 100000
set_option linter.unusedSimpArgs false
namespace Go.Proofs.Ytfocjcdfpnbkjaa
open Go.RowKit Go.Sort Go.Shelf Go.Maps

def countsB (f : Nat → Wh) (m : Mg) : Bool := decide (0 ≤ m.f) && (decide (m.f < 64) && (decide (1 ≤ m.q) && decide (m.q ≤ wholeP f m.f)))
theorem countsB_iff {f : Nat → Wh} {m : Mg} : countsB f m = true ↔ countsP f m := by
  unfold countsB countsP
  simp only [Bool.and_eq_true, decide_eq_true_eq]
  constructor
  · rintro ⟨h1, h2, h3, h4⟩
    exact ⟨h1, h2, h3, by rw [whole_in _ _ h1 h2] at h4; exact h4⟩
  · rintro ⟨h1, h2, h3, h4⟩
    exact ⟨h1, h2, h3, by rw [whole_in _ _ h1 h2]; exact h4⟩
set_option maxHeartbeats 4000000 in
theorem refCounts {w : World} {ao : Option Addr} {n : Nat} {C : List Xg} (h : XgL w ao n C) (c : Nat) (hn : n ≤ 1048576) (m : Mg) :
    Calls Try.prog 100 #[.slice ao n c, .agg (encG m).toArray] w fun e w' => e = .returned (.bool (countsB (whL C) m)) ∧ Below w.heap.size w w' := by
  have B1 := ((Grw.refl w).alloc (.cells (encG m).toArray 47)).below
  have M1 := Lib.hid (MgB.new w m)
  have HB1 := Lib.hid B1
  have HL1 := Lib.hid (h.below B1)
  obtain ⟨b, hb⟩ : ∃ b, b = countsB (whL C) m := ⟨_, rfl⟩
  rw [← hb]
  clear h B1
  obtain ⟨f, q, s, v, a, dl, dc, deps, text⟩ := m
  unfold countsB at hb
  simp only at hb M1
  have HBE := Lib.hid hb
  clear hb
  unfold encG at HB1 HL1 ⊢
  simp only at HB1 HL1
  go_enter Try.func100, Try.ntmps100
  go_upto_region 1 with fail
  generalize w.alloc (.cells #[.int .i64 f, .int .u32 q, .int .u64 s, .int .i64 v, .slice a dl dc, .string text] 47) = w1 at *
  obtain ⟨mb, hmb⟩ : ∃ mb, mb = w.heap.size := ⟨_, rfl⟩
  rw [← hmb] at M1
  try rw [← hmb]
  clear hmb
  have c0 : w1.cell? ⟨mb, 0, none⟩ = some (.int .i64 f) := M1.out.own.at_ 0 _ rfl
  have c1 : w1.cell? ⟨mb, 1, none⟩ = some (.int .u32 q) := M1.out.own.at_ 1 _ rfl
  have PW := fun n' => refWhole (HL1.out.below ((Grw.refl w1).drewN n').below) c hn f
  generalize wholeP (whL C) f = u at *
  cases t1 : decide (0 ≤ f) with
  | false =>
    rw [t1, Bool.false_and] at HBE
    go_quiet (fail)
    have HB2 := Lib.hid (HB1.out.trans (((Grw.refl w1).drewN nq).below.mono HB1.out.size))
    go_wp2
    go_ret
    exact ⟨by rw [HBE.out]; rfl, HB2.out⟩
  | true =>
    cases t2 : decide (f < 64) with
    | false =>
      rw [t1, t2, Bool.true_and, Bool.false_and] at HBE
      go_quiet (fail)
      have HB2 := Lib.hid (HB1.out.trans (((Grw.refl w1).drewN nq).below.mono HB1.out.size))
      go_wp2
      go_ret
      exact ⟨by rw [HBE.out]; rfl, HB2.out⟩
    | true =>
      cases t3 : decide (1 ≤ q) with
      | false =>
        rw [t1, t2, t3, Bool.true_and, Bool.true_and, Bool.false_and] at HBE
        go_quiet (fail)
        have HB2 := Lib.hid (HB1.out.trans (((Grw.refl w1).drewN nq).below.mono HB1.out.size))
        go_wp2
        go_ret
        exact ⟨by rw [HBE.out]; rfl, HB2.out⟩
      | true =>
        rw [t1, t2, t3, Bool.true_and, Bool.true_and, Bool.true_and] at HBE
        go_quiet ((go_at_call 47; exact Calls.quiet_of_same ((PW _).mono fun _ _ ⟨he, hw⟩ => ⟨he, hw.symm⟩)))
        have HB2 := Lib.hid (HB1.out.trans (((Grw.refl w1).drewN nq).below.mono HB1.out.size))
        go_wp2
        go_ret
        exact ⟨by rw [HBE.out]; rfl, HB2.out⟩
end Go.Proofs.Ytfocjcdfpnbkjaa
