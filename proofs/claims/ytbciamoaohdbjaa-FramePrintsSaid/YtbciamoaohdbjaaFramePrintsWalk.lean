/- The walk of 'FramePrints'. -/
import Derived.Test.YtbciamoaohdbjaaFrameAwake
import Derived.Test.YtbciamoaohdbjaaRefPrint
set_option linter.unusedVariables false
set_option linter.unusedSimpArgs false
namespace Go.Proofs.Ytbciamoaohdbjaa
open Go.RowKit Go.Sort

set_option maxHeartbeats 2000000 in
theorem walk_FramePrints (k f t : Int) (wk : (Lit.int .i64 k).wf = true) (wf : (Lit.int .i64 f).wf = true) (wt : (Lit.int .i64 t).wf = true) (b : ByteArray) (wb : b.size ≤ maxLen) (w : World) :
    Calls Try.prog 3 #[.agg #[.int .i64 k, .int .i64 f, .int .i64 t, .string b]] w fun e w' => e = .returned (.bool true) ∧ Below w.heap.size w w' := by
  by_cases h1 : (40000 : Int) < b.size
  · go_enter Try.func3, Try.ntmps3
    go_wp2_with fail
    refine (frameAwake_any _).mono ?_
    rintro e w1 ⟨rfl, L1⟩
    have B1 := (Box4.new w k f t b 23).below L1
    have d3 := B1.c3
    have L : Below w.heap.size w w1 := ((Grw.refl w).alloc _).below.trans (L1.mono (by simp))
    clear B1 L1
    go_wp2
    go_ret
    exact ⟨rfl, L⟩
  have hb : b.size ≤ 1099511627776 := by omega
  cases hc : decide (fcode k f t b.size = 0) with
  | true =>
    have hc := of_decide_eq_true hc
    have hm := fcode_may hc
    obtain ⟨k, rfl⟩ := Int.eq_ofNat_of_zero_le (show 0 ≤ k by omega)
    obtain ⟨f, rfl⟩ := Int.eq_ofNat_of_zero_le (show 0 ≤ f by omega)
    obtain ⟨t, rfl⟩ := Int.eq_ofNat_of_zero_le (show 0 ≤ t by omega)
    have p1 := fun W => print_yes k f t b W hb hc
    have p2 := fun W => refPrint_yes k f t b W hc
    generalize printz k f t b = z at *
    clear hc hm wk wf wt wb hb
    go_enter Try.func3, Try.ntmps3
    go_wp2_with fail
    refine (frameAwake_any _).mono ?_
    rintro e w1 ⟨rfl, L1⟩
    have B1 := (Box4.new w k f t b 23).below L1
    have L : Below w.heap.size w w1 := ((Grw.refl w).alloc _).below.trans (L1.mono (by simp))
    have HL := Lib.hid L
    have HB := Lib.hid B1
    have d0 := B1.c0
    have d1 := B1.c1
    have d2 := B1.c2
    have d3 := B1.c3
    clear B1 L1 L
    go_wp2_with fail
    refine (p1 _).mono ?_
    rintro e w2 ⟨rfl, L2⟩
    have B2 := HB.out.below L2
    clear d0 d1 d2 d3
    have d0 := B2.c0
    have d1 := B2.c1
    have d2 := B2.c2
    have d3 := B2.c3
    have HL2 := Lib.hid (HL.out.trans (L2.mono HL.out.size))
    clear B2 L2 HL HB
    go_wp2_with fail
    refine (p2 _).mono ?_
    rintro e w3 ⟨rfl, L3⟩
    have HL3 := Lib.hid (HL2.out.trans (L3.mono HL2.out.size))
    clear L3 HL2 d0 d1 d2 d3
    go_wp2
    go_ret
    exact ⟨rfl, HL3.out⟩
  | false =>
    have hn := of_decide_eq_false hc
    obtain ⟨c, hcc⟩ : ∃ c, fcode k f t b.size = c := ⟨_, rfl⟩
    rw [hcc] at hn
    have p1 := fun W => print_no k f t b W hb c hcc hn
    have p2 := fun W => refPrint_no k f t b W c hcc hn
    have hcb := fcode_bd k f t b.size
    rw [hcc] at hcb
    clear hc hcc wk wf wt wb hb
    go_enter Try.func3, Try.ntmps3
    go_wp2_with fail
    refine (frameAwake_any _).mono ?_
    rintro e w1 ⟨rfl, L1⟩
    have B1 := (Box4.new w k f t b 23).below L1
    have L : Below w.heap.size w w1 := ((Grw.refl w).alloc _).below.trans (L1.mono (by simp))
    have HL := Lib.hid L
    have HB := Lib.hid B1
    have d0 := B1.c0
    have d1 := B1.c1
    have d2 := B1.c2
    have d3 := B1.c3
    clear B1 L1 L
    go_wp2_with fail
    refine (p1 _).mono ?_
    rintro e w2 ⟨rfl, L2⟩
    have B2 := HB.out.below L2
    clear d0 d1 d2 d3
    have d0 := B2.c0
    have d1 := B2.c1
    have d2 := B2.c2
    have d3 := B2.c3
    have HL2 := Lib.hid (HL.out.trans (L2.mono HL.out.size))
    clear B2 L2 HL HB
    go_wp2_with fail
    refine (p2 _).mono ?_
    rintro e w3 ⟨rfl, rfl⟩
    go_wp2
    go_ret
    exact ⟨rfl, HL2.out⟩
end Go.Proofs.Ytbciamoaohdbjaa
