/- Attempts: a member is ready. -/
import Derived.Test.YtmaiphgmnammgaaDoorZGaWaits
set_option linter.unusedVariables false
set_option maxRecDepth 100000
set_option linter.unusedSimpArgs false
namespace Go.Proofs.YtmaiphgmnammgaaDoor
open Go.RowKit Go.Sort Go.Maps

/-- What an act of an attempt leaves. -/
def Acted (w : World) (g mb : Nat) (S : Gt) (b : Bool) (e : Ending) (w' : World) : Prop :=
  e = .returned (.bool b) ∧ GtB w' g mb S ∧ Chg (fun k => k = g ∨ k = mb) w w'
section
variable {w : World} {g mb : Nat} {S : Gt}
set_option maxHeartbeats 2000000 in
theorem gready (h : GtB w g mb S) (z : Int) (hz : I64k z) :
    Calls Tryd.prog 11 #[.pointer (some ⟨g, 0, none⟩), .int .i64 z] w (Acted w g mb (readyG S z) (readyB S z)) := by
  have PT := gtold h
  have HH := Lib.hid h
  clear h
  cases ht : toldG S with
  | false =>
    rw [ht] at PT
    have hno : readyOk S z = false := by unfold readyOk; rw [ht]; rfl
    have HN := Lib.hid (show readyG S z = S ∧ readyB S z = false from ⟨by unfold readyG; rw [hno, if_neg (by decide)], by unfold readyB; rw [hno]; rfl⟩)
    rw [HN.out.1, HN.out.2]
    clear hno ht HN
    go_enter Tryd.func11, Tryd.ntmps11
    go_wp2_with fail
    refine PT.mono ?_
    rintro e w1 ⟨rfl, B1⟩
    have H1 := Lib.hid (HH.out.later B1)
    have HC := Lib.hid (Chg.of_below (D := fun k => k = g ∨ k = mb) B1)
    clear PT B1
    go_wp2
    go_ret
    exact ⟨rfl, H1.out, HC.out⟩
  | true =>
    rw [ht] at PT
    have HRO := Lib.hid (show readyOk S z = mem (waitG S) z by unfold readyOk; rw [ht]; rfl)
    clear ht
    go_enter Tryd.func11, Tryd.ntmps11
    go_wp2_with fail
    refine PT.mono ?_
    rintro e w1 ⟨rfl, B1⟩
    have H1 := Lib.hid (HH.out.later B1)
    have HB1 := Lib.hid B1
    have PW := gwaits H1.out
    clear PT B1
    go_wp2_with fail
    refine PW.mono ?_
    rintro e w2 ⟨rfl, B2⟩
    have H2 := Lib.hid (H1.out.later B2)
    have HB2 := Lib.hid (HB1.out.trans (B2.mono HB1.out.size))
    have PH := has_any (waitG S) z w2 (waitG_lt S) hz.1 hz.2
    clear PW B2 H1 HB1 HH
    cases hm : mem (waitG S) z with
    | false =>
      rw [hm] at PH
      have hno : readyOk S z = false := by rw [HRO.out, hm]
      have HN := Lib.hid (show readyG S z = S ∧ readyB S z = false from ⟨by unfold readyG; rw [hno, if_neg (by decide)], by unfold readyB; rw [hno]; rfl⟩)
      have HC := Lib.hid (Chg.of_below (D := fun k => k = g ∨ k = mb) HB2.out)
      clear hno hm HRO
      go_wp2_with fail
      refine PH.mono ?_
      rintro e w3 ⟨rfl, rfl⟩
      clear PH
      go_wp2
      go_ret
      exact ⟨by rw [HN.out.2]; rfl, by rw [HN.out.1]; exact H2.out, HC.out⟩
    | true =>
      rw [hm] at PH
      have hro : readyOk S z = true := by rw [HRO.out, hm]
      have HN := Lib.hid (show readyG S z = { S with Y := any S.Y (onl z) } ∧ readyB S z = doneG (readyG S z) from ⟨by unfold readyG; rw [if_pos hro], by rw [ready_done, hro]; rfl⟩)
      clear hro hm HRO
      go_wp2_with fail
      refine PH.mono ?_
      rintro e w3 ⟨rfl, rfl⟩
      clear PH
      have c4 := H2.out.c4
      have PW := with_any S.Y (some ⟨w2.heap.size, 0, none⟩) 1 1 [z] (w2.alloc (.cells #[.int .i64 z] 3)) H2.out.ok.y (InI.oneZ w2 z hz.1 hz.2) (by decide)
      rw [ofl_oneZ] at PW
      have L3 := ((Grw.refl w2).alloc (.cells #[.int .i64 z] 3)).below
      have H3 := Lib.hid (H2.out.later L3)
      have HB3 := Lib.hid (HB2.out.trans (L3.mono HB2.out.size))
      clear L3 HB2
      go_wp2_with fail
      refine PW.mono ?_
      rintro e w4 ⟨rfl, rfl⟩
      clear PW c4 H2
      have HY : Hid (GtB ((w2.alloc (.cells #[.int .i64 z] 3)).setCell ⟨g, 4, none⟩ (.int .u64 ((any S.Y (onl z) : Nat) : Int))) g mb (readyG S z)) := Lib.hid (by
        have h5 := H3.out.ok.ready z
        rw [HN.out.1] at h5 ⊢
        exact H3.out.setY _ h5)
      have f4 := H3.out.blk.free 4
      have c4 := H3.out.c4
      have HC : Hid (Chg (fun k => k = g ∨ k = mb) w ((w2.alloc (.cells #[.int .i64 z] 3)).setCell ⟨g, 4, none⟩ (.int .u64 ((any S.Y (onl z) : Nat) : Int)))) := Lib.hid ((Chg.of_below (D := fun k => k = g ∨ k = mb) HB3.out).trans ⟨rfl, rfl, rfl, by simp, fun k hk hn => heap_setCell_other _ _ _ _ fun e => hn (.inl e)⟩)
      clear H3 HB3
      generalize (w2.alloc (.cells #[.int .i64 z] 3)) = w3 at *
      go_upto_region 4 with fail
      clear f4 c4
      generalize (w3.setCell ⟨g, 4, none⟩ (.int .u64 ((any S.Y (onl z) : Nat) : Int))) = w5 at *
      have PD := gdone HY.out
      go_wp2_with fail
      refine PD.mono ?_
      rintro e w6 ⟨rfl, B6⟩
      have HY6 := Lib.hid (HY.out.later B6)
      have HC6 := Lib.hid (HC.out.then B6)
      clear PD B6 HY HC
      go_wp2
      go_ret
      exact ⟨by rw [HN.out.2]; rfl, HY6.out, HC6.out⟩
end
end Go.Proofs.YtmaiphgmnammgaaDoor
