/- Attempts: for whom one waits. -/
import Derived.Test.YtmaiphgmnammgaaDoorZGaOwn
set_option linter.unusedVariables false
set_option maxRecDepth 100000
set_option linter.unusedSimpArgs false
namespace Go.Proofs.YtmaiphgmnammgaaDoor
open Go.RowKit Go.Sort Go.Maps

/-- Amid the loop: whose exchange hasn't been met. -/
def WtS (S : Gt) (left : Lit → Bool) (s : Nat) : Prop := s < 18446744073709551616 ∧ ∀ p, p < 64 → s.testBit p = (S.M.testBit p && (left (.int .i64 (p : Int)) || !told S.H p))
theorem small64 (p : Nat) (hp : p < 64) : I64k (p : Int) := ⟨by omega, by omega⟩
theorem WtS.start {S : Gt} {left : Lit → Bool} (hM : S.M < 18446744073709551616) (hl : ∀ k : Int, I64k k → left (.int .i64 k) = (S.H k).isSome) : WtS S left S.M := by
  refine ⟨hM, fun p hp => ?_⟩
  rw [hl _ (small64 p hp)]
  unfold told
  cases (S.H (p : Int)).isSome <;> simp
theorem WtS.next {S : Gt} {left : Lit → Bool} {s : Nat} (h : WtS S left s) {k : Int} {m : Xg} (hk : I64k k) (hH : S.H k = some m) : WtS S (fun z => left z && !z.sameKey (.int .i64 k)) (but s (ofl [k])) := by
  refine ⟨but_lt _ _, fun p hp => ?_⟩
  rw [but_bit _ _ _ hp, one_bit _ _ hp, h.2 p hp]
  dsimp only
  by_cases e : (p : Int) = k
  · subst e
    rw [WideAt.sameKey_self (isKeyI _ hk), decide_eq_true rfl]
    have ht : told S.H p = true := by unfold told; rw [hH]; rfl
    rw [ht]; simp
  · rw [decide_eq_false e, Maps.sameKey_ne (litI_ne e)]; simp
theorem WtS.end_ {S : Gt} {left : Lit → Bool} {s : Nat} (h : WtS S left s) (hl : ∀ kl, left kl = false) (ht : toldG S = false) : s = waitG S := by
  refine set_ext _ _ h.1 (waitG_lt S) fun p hp => ?_
  rw [h.2 p hp, wait_bit S p hp, hl, if_neg (by rw [ht]; decide)]
  simp
section
variable {w : World} {g mb : Nat} {S : Gt}
set_option maxHeartbeats 2000000 in
theorem gwaits (h : GtB w g mb S) :
    Calls Tryd.prog 20 #[.pointer (some ⟨g, 0, none⟩)] w fun e w' => e = .returned (.int .u64 (waitG S : Nat)) ∧ Below w.heap.size w w' := by
  have PT := gtold h
  have HH := Lib.hid h
  clear h
  cases ht : toldG S with
  | true =>
    rw [ht] at PT
    have HW := Lib.hid (show waitG S = but S.M S.Y by unfold waitG; rw [if_pos ht])
    clear ht
    go_enter Tryd.func20, Tryd.ntmps20
    go_wp2_with fail
    refine PT.mono ?_
    rintro e w1 ⟨rfl, B1⟩
    have H1 := HH.out.later B1
    have c2 := H1.c2
    have c4 := H1.c4
    have PB := fun n => but_any S.M S.Y (w1.drewN n) H1.ok.m H1.ok.y
    have HB1 := Lib.hid B1
    rw [← HW.out] at PB
    obtain ⟨z, hz⟩ : ∃ z, z = waitG S := ⟨_, rfl⟩
    rw [← hz] at PB
    have HZ := Lib.hid hz
    clear hz HW
    generalize S.M = a at *
    generalize S.Y = b at *
    clear H1 B1 PT
    go_upto_region 2 with fail
    go_quiet ((go_at_call 44; exact Calls.quiet_of_same ((PB _).mono fun _ _ ⟨he, hw⟩ => ⟨he, hw.symm⟩)))
    have HB := Lib.hid (HB1.out.trans (((Grw.refl w1).drewN nq).below.mono HB1.out.size))
    go_wp2
    go_ret
    exact ⟨by rw [← HZ.out]; rfl, HB.out⟩
  | false =>
    rw [ht] at PT
    have HT := Lib.hid ht
    clear ht
    go_enter Tryd.func20, Tryd.ntmps20
    go_wp2_with fail
    refine PT.mono ?_
    rintro e w1 ⟨rfl, B1⟩
    have H1 := Lib.hid (HH.out.later B1)
    have c2 := H1.out.c2
    have c3 := H1.out.c3
    have HB1 := Lib.hid B1
    clear PT B1 HH
    go_wp2_with (refine range_mi _ rfl mapX _ rfl rfl H1.out.map ?_; intro w2 left R2 hleft B2 hs2)
    have HW0 := Lib.hid (WtS.start H1.out.ok.m hleft)
    have HR2 := Lib.hid R2
    have HB2 := Lib.hid (HB1.out.trans (B2.mono HB1.out.size))
    have hr1 : w.heap.size ≤ w1.heap.size := HB1.out.size
    clear R2 hleft B2 hs2 c2 c3
    generalize w1.heap.size = r at *
    (try simp only [Act.put, List.setIfInBounds_toArray, List.set_cons_zero, List.set_cons_succ])
    go_loopw [3] (fun ss wr => ∃ (s : Nat) (left : Lit → Bool) (cnt : Nat), ss = .int .u64 (s : Int) ∧ Aside (WtS S left s) ∧ Aside (RngI encXv wr mb r S.H S.n left cnt) ∧ Aside (Below w.heap.size w wr)) (fun _ wr => wr.rangeLeft mb r)
    case atStart => exact ⟨S.M, left, S.n, rfl, HW0.out, HR2.out, HB2.out⟩
    case round =>
      obtain ⟨s, left1, cnt1, rfl, HS, HR, HB⟩ := hrel
      clear HW0 HR2 HB2
      go_wp2_with (at_next; refine next_mi _ rfl _ rfl rfl HR.out (fun hl0 => ?_) (fun k v m w5 cnt5 hk hHk hv hlk R5 hc5 G5 hen => ?_))
      · have HE := Lib.hid (WtS.end_ HS.out hl0 HT.out)
        clear HS HR
        go_ret
        exact ⟨by rw [← HE.out]; rfl, HB.out⟩
      · have PL := less_any s (some ⟨w5.heap.size, 0, none⟩) 1 1 [k] _ HS.out.1 (in_one w5 k hk.1 hk.2) (by decide)
        have L6 := ((Grw.refl w5).alloc (.cells #[.int .i64 k] 3)).below
        have HN := Lib.hid (HS.out.next hk hHk)
        have R6 := Lib.hid (R5.below L6)
        have HB5 : Below w.heap.size w w5 := HB.out.grown G5 HB.out.size (fun j e => by cases e; exact hr1)
        have HB6 := Lib.hid (HB5.trans (L6.mono HB5.size))
        have hm1 := HR.out.left_eq
        have hm2 := R6.out.left_eq
        have HM := Lib.hid (show (w5.alloc (.cells #[.int .i64 k] 3)).rangeLeft mb r < wr.rangeLeft mb r by rw [hm1, hm2]; exact hc5)
        clear HS HR HB R5 hc5 G5 hen L6 HB5 hm1 hm2 hlk hv
        refine PL.mono ?_
        rintro e w6 ⟨rfl, rfl⟩
        clear PL
        go_wp2
        go_roundw
        case rel => exact ⟨_, _, cnt5, rfl, HN.out, R6.out, HB6.out⟩
        case measure => exact HM.out
end
end Go.Proofs.YtmaiphgmnammgaaDoor
