/- Attempts: must another one be begun? -/
import Derived.Test.YtmaiphgmnammgaaDoorZGaOwn
import Derived.Test.YtmaiphgmnammgaaDoorZKeyMaths
import Derived.Test.YtmaiphgmnammgaaDoorZBel
import Derived.Laws.IdiomRangeMap
set_option linter.unusedVariables false
set_option maxRecDepth 100000
set_option linter.unusedSimpArgs false
namespace Go.Proofs.YtmaiphgmnammgaaDoor
open Go.RowKit Go.Sort Go.Maps

def encCv (k : K) : Value := .agg #[.int .u64 k.n, .int .i64 k.p]
theorem mapC : Tryd.prog.underlying 59 = some (.map 3 24) := Tryd.underlying59
/-- One of these names that comes behind the attempt's, of a member. -/
def badC (M : Nat) (id : K) (k : Int) (c : K) : Bool := mem M k && decide (0 < kcmp c id)
/-- What Fails answers. -/
def FailSaid (w : World) (S : Gt) (R : Nat) (H : Int → Option K) (e : Ending) (w' : World) : Prop :=
  ∃ b, e = .returned (.bool b) ∧ (b = true ↔ R ≠ S.M ∨ ∃ k c, H k = some c ∧ badC S.M ⟨S.e, S.r⟩ k c = true) ∧ Below w.heap.size w w'
section
variable {w : World} {g mb : Nat} {S : Gt}
set_option maxHeartbeats 4000000 in
theorem gfails (h : GtB w g mb S) (R : Nat) (nb n : Nat) (H : Int → Option K) (hn : MapI encCv w nb H n) :
    Calls Tryd.prog 30 #[.pointer (some ⟨g, 0, none⟩), .int .u64 (R : Int), .map (some nb)] w (FailSaid w S R H) := by
  have c2 := h.c2
  have hne : ((R : Int) != (S.M : Int)) = decide (R ≠ S.M) := by
    by_cases h : R = S.M
    · rw [h]; simp
    · rw [decide_eq_true h]; simp; omega
  cases hd : decide (R ≠ S.M) with
  | true =>
    rw [hd] at hne
    have HF : Hid (FailSaid w S R H (.returned (.bool true)) w) := Lib.hid ⟨true, rfl, ⟨fun _ => .inl (of_decide_eq_true hd), fun _ => rfl⟩, Below.refl _ _⟩
    generalize S.M = M at *
    clear h hd hn
    go_enter Tryd.func30, Tryd.ntmps30
    go_wp2
    go_ret
    exact HF.out
  | false =>
    rw [hd] at hne
    have HRM : Hid (R = S.M) := Lib.hid (Classical.byContradiction fun e => by rw [decide_eq_true e] at hd; cases hd)
    have HH := Lib.hid h
    have HN := Lib.hid hn
    clear h hn hd
    go_enter Tryd.func30, Tryd.ntmps30
    go_wp2_with (refine range_mi _ rfl mapC _ rfl rfl HN.out ?_; intro w2 left R2 hleft B2 hs2)
    have HR2 := Lib.hid R2
    have HB2 := Lib.hid B2
    have HL0 := Lib.hid (show ∀ k c, H k = some c → I64k k → left (.int .i64 k) = false → badC S.M ⟨S.e, S.r⟩ k c = false from fun k c hk hi hl => by rw [hleft k hi, hk] at hl; cases hl)
    clear R2 hleft B2 hs2 hne HN
    have hr1 : w.heap.size ≤ w.heap.size := Nat.le_refl _
    obtain ⟨r, hr⟩ : ∃ r, r = w.heap.size := ⟨_, rfl⟩
    rw [← hr] at HR2
    have HRR := Lib.hid hr
    rw [← hr]
    clear hr hr1 c2
    (try simp only [Act.put, List.setIfInBounds_toArray, List.set_cons_zero, List.set_cons_succ])
    go_loopw [6] (fun _ wr => ∃ (left : Lit → Bool) (cnt : Nat), Aside (RngI encCv wr nb r H n left cnt) ∧ Aside (∀ k c, H k = some c → I64k k → left (.int .i64 k) = false → badC S.M ⟨S.e, S.r⟩ k c = false) ∧ Aside (Below w.heap.size w wr)) (fun _ wr => wr.rangeLeft nb r)
    case atStart => exact ⟨left, n, HR2.out, HL0.out, HB2.out⟩
    case round =>
      obtain ⟨left1, cnt1, HR, HL, HB⟩ := hrel
      clear HL0 HR2 HB2
      go_wp2_with (at_next; refine next_mi _ rfl _ rfl rfl HR.out (fun hl0 => ?_) (fun k v m w5 cnt5 hk hHk hv hlk R5 hc5 G5 hen => ?_); all_goals (try (subst hv; obtain ⟨kn, kp⟩ := m; rw [show encCv ⟨kn, kp⟩ = .agg #[.int .u64 kn, .int .i64 kp] from rfl] at hen ⊢)))
      · have HF : Hid (FailSaid w S R H (.returned (.bool false)) wr) := Lib.hid ⟨false, rfl, ⟨(fun e => by cases e), fun e => by
          rcases e with e | ⟨k, c, e1, e2⟩
          · exact absurd HRM.out e
          · exfalso
            have := HL.out k c e1 (by
              unfold badC at e2
              simp only [Bool.and_eq_true] at e2
              have := mem_lt e2.1
              exact ⟨by omega, by omega⟩) (hl0 _)
            rw [this] at e2; cases e2⟩, HB.out⟩
        clear HR HL
        go_ret
        exact HF.out
      · have HB5 : Below w.heap.size w w5 := HB.out.grown G5 HB.out.size (fun j e => by injection e with e; rw [← e, HRR.out]; exact Nat.le_refl _)
        have L6 := ((Grw.refl w5).alloc (.cells #[.int .u64 kn, .int .i64 kp] 24)).below
        have O6 := Own.new w5 24 #[.int .u64 kn, .int .i64 kp]
        have HB6 := Lib.hid (HB5.trans (L6.mono HB5.size))
        have R6 := Lib.hid (R5.below L6)
        have H6 := Lib.hid (HH.out.later HB6.out)
        have hm1 := HR.out.left_eq
        have HC := Lib.hid (show cnt5 < wr.rangeLeft nb r by rw [hm1]; exact hc5)
        have HLN := Lib.hid (show badC S.M ⟨S.e, S.r⟩ k ⟨kn, kp⟩ = false → ∀ j c, H j = some c → I64k j → (left1 (.int .i64 j) && !(Lit.int .i64 j).sameKey (.int .i64 k)) = false → badC S.M ⟨S.e, S.r⟩ j c = false from fun hb j c hj hi hl => by
          by_cases e : j = k
          · subst e; rw [hHk] at hj; injection hj with hj; rw [← hj]; exact hb
          · rw [Maps.sameKey_ne (litI_ne e)] at hl
            exact HL.out j c hj hi (by simpa using hl))
        have HHK := Lib.hid hHk
        clear HB5 R5 hc5 G5 hen L6 HR HL HB hlk hm1 hHk
        generalize hw6 : (w5.alloc (.cells #[.int .u64 kn, .int .i64 kp] 24)) = w6 at *
        clear hw6
        generalize w5.heap.size = cb at *
        have hgl := H6.out.lt
        have hol := O6.lt
        have v0 := fun n' os' => cell_form hgl H6.out.c0 n' os'
        have v1 := fun n' os' => cell_form hgl H6.out.c1 n' os'
        have v2 := fun n' os' => cell_form hgl H6.out.c2 n' os'
        have x0 := fun n' os' => cell_form hol (show w6.cell? ⟨cb, 0, none⟩ = some (.int .u64 kn) from O6.at_ 0 _ rfl) n' os'
        have x1 := fun n' os' => cell_form hol (show w6.cell? ⟨cb, 1, none⟩ = some (.int .i64 kp) from O6.at_ 1 _ rfl) n' os'
        have K1 : Hid (∀ n' os', Calls Tryd.prog 28 #[.int .u64 (S.M : Int), .int .i64 k] (grow (atD w6 n') os') fun e w'' => e = .returned (.bool (mem S.M k)) ∧ Below (grow (atD w6 n') os').heap.size (grow (atD w6 n') os') w'') := Lib.hid (fun n' os' =>
          (has_any S.M k (grow (atD w6 n') os') H6.out.ok.m hk.1 hk.2).mono fun e w'' ⟨h1, h2⟩ => ⟨h1, by rw [← h2]; exact Below.refl _ _⟩)
        have K2 : Hid (∀ n' os', Calls Tryd.prog 50 #[.agg #[.int .u64 kn, .int .i64 kp], .agg #[.int .u64 S.e, .int .i64 S.r]] (grow (atD w6 n') os') fun e w'' => e = .returned (.int .i64 (kcmp ⟨kn, kp⟩ ⟨S.e, S.r⟩)) ∧ Grw (grow (atD w6 n') os') w'') := Lib.hid (fun n' os' => confs_any ⟨kn, kp⟩ ⟨S.e, S.r⟩ _)
        clear O6
        have HBAD := Lib.hid (show badC S.M ⟨S.e, S.r⟩ k ⟨kn, kp⟩ = (mem S.M k && decide (0 < kcmp ⟨kn, kp⟩ ⟨S.e, S.r⟩)) from rfl)
        obtain ⟨kc, hkc⟩ : ∃ kc, kc = kcmp ⟨kn, kp⟩ ⟨S.e, S.r⟩ := ⟨_, rfl⟩
        rw [← hkc] at K2 HBAD
        clear hkc
        cases hm : mem S.M k with
        | false =>
          rw [hm] at K1
          have HN := Lib.hid (HLN.out (by rw [HBAD.out, hm]; rfl))
          clear hm HBAD HLN
          refine wp_region_quiet_below (by kernel_rfl) (by kernel_rfl) ?_
          repeat (quiet_step (first | (go_at_call 28; exact calls_below (K1.out _ _)) | (go_at_call 50; exact calls_grw (K2.out _ _))))
          refine wpQuiet_nil ?_
          intro _ hw'
          obtain ⟨⟨nq, osq⟩, hw''⟩ := hw'
          subst hw''
          have R7 := Lib.hid (R6.out.below (below_of_form w6 nq osq))
          have HB7 := Lib.hid (HB6.out.trans ((below_of_form w6 nq osq).mono HB6.out.size))
          have HC7 := Lib.hid (show (grow (atD w6 nq) osq).rangeLeft nb r < wr.rangeLeft nb r by rw [R7.out.left_eq]; exact HC.out)
          clear K1 K2 v0 v1 v2 x0 x1 R6 HB6 H6 HC hgl hol
          generalize (grow (atD w6 nq) osq) = w7 at *
          go_wp2
          go_roundw
          case rel => exact ⟨_, cnt5, R7.out, HN.out, HB7.out⟩
          case measure => exact HC7.out
        | true =>
          rw [hm] at K1
          cases hd : decide (0 < kc) with
          | false =>
            have HN := Lib.hid (HLN.out (by rw [HBAD.out, hd]; simp))
            clear hm HBAD HLN
            refine wp_region_quiet_below (by kernel_rfl) (by kernel_rfl) ?_
            repeat (quiet_step (first | (go_at_call 28; exact calls_below (K1.out _ _)) | (go_at_call 50; exact calls_grw (K2.out _ _))))
            refine wpQuiet_nil ?_
            intro _ hw'
            obtain ⟨⟨nq, osq⟩, hw''⟩ := hw'
            subst hw''
            have R7 := Lib.hid (R6.out.below (below_of_form w6 nq osq))
            have HB7 := Lib.hid (HB6.out.trans ((below_of_form w6 nq osq).mono HB6.out.size))
            have HC7 := Lib.hid (show (grow (atD w6 nq) osq).rangeLeft nb r < wr.rangeLeft nb r by rw [R7.out.left_eq]; exact HC.out)
            clear K1 K2 v0 v1 v2 x0 x1 R6 HB6 H6 HC hgl hol
            generalize (grow (atD w6 nq) osq) = w7 at *
            go_wp2
            go_roundw
            case rel => exact ⟨_, cnt5, R7.out, HN.out, HB7.out⟩
            case measure => exact HC7.out
          | true =>
            have HY := Lib.hid (show badC S.M ⟨S.e, S.r⟩ k ⟨kn, kp⟩ = true by rw [HBAD.out, hm, hd]; rfl)
            clear hm HBAD HLN
            refine wp_region_quiet_below (by kernel_rfl) (by kernel_rfl) ?_
            repeat (quiet_step (first | (go_at_call 28; exact calls_below (K1.out _ _)) | (go_at_call 50; exact calls_grw (K2.out _ _))))
            refine wpQuiet_nil ?_
            intro _ hw'
            obtain ⟨⟨nq, osq⟩, hw''⟩ := hw'
            subst hw''
            have HB7 := Lib.hid (HB6.out.trans ((below_of_form w6 nq osq).mono HB6.out.size))
            have HF : Hid (FailSaid w S R H (.returned (.bool true)) (grow (atD w6 nq) osq)) := Lib.hid ⟨true, rfl, ⟨fun _ => .inr ⟨k, _, HHK.out, HY.out⟩, fun _ => rfl⟩, HB7.out⟩
            clear K1 K2 v0 v1 v2 x0 x1 R6 HB6 H6 HC hgl hol
            generalize (grow (atD w6 nq) osq) = w7 at *
            go_wp2
            go_ret
            exact HF.out
set_option maxHeartbeats 1000000 in
/-- Of no names. -/
theorem gfails_nil (h : GtB w g mb S) (R : Nat) (hR : R = S.M) :
    Calls Tryd.prog 30 #[.pointer (some ⟨g, 0, none⟩), .int .u64 (R : Int), .map none] w fun e w' => e = .returned (.bool false) ∧ Below w.heap.size w w' := by
  have c2 := h.c2
  have hrg := run_range_nilMap (P := Tryd.prog) w 59 3 24 mapC
  have hnx : ∀ ty, (Instr.next (.pointer (some ⟨w.heap.size, 0, none⟩)) false ty).run Tryd.prog (w.alloc (.mapIter none 0 #[] 0)) = _ := fun ty => run_next_nilMap w ty 0 0 #[]
  have HB := Lib.hid ((Grw.refl w).alloc (.mapIter none 0 #[] 0)).below
  subst hR
  have hne : ((S.M : Int) != (S.M : Int)) = false := by simp
  clear h
  go_enter Tryd.func30, Tryd.ntmps30
  go_wp2
  refine wp_loop_rounds 1 ?_
  rw [rounds_succ]
  go_wp2
  go_ret
  exact ⟨rfl, HB.out⟩
end
end Go.Proofs.YtmaiphgmnammgaaDoor
