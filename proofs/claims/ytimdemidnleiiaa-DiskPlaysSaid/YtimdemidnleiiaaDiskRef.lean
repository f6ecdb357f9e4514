/- The document's disk: whole, newest, put, Write, Tear, Read. -/
import Derived.Test.YtimdemidnleiiaaDiskRead
import Derived.Test.YtimdemidnleiiaaCrcOpenRef
import Derived.Test.YtimdemidnleiiaaRefPut
set_option linter.unusedVariables false
set_option linter.unusedSimpArgs false
namespace Go.Proofs.Ytimdemidnleiiaa
open Go.RowKit Go.Sort

theorem opened_size (s : ByteArray) (hs : s.size ≤ 1099511627776) : (openS s).size ≤ 1099511627776 := by
  unfold openS
  split
  · rw [ByteArray.size_extract]; omega
  · exact (by decide : ({ data := #[] } : ByteArray).size ≤ 1099511627776)
theorem toB {w w' : World} (h : Grw w w') : Below w.heap.size w w' := h.below
set_option maxHeartbeats 2000000 in
theorem rwhole (s : ByteArray) (w : World) (hs : s.size ≤ 1099511627776) :
    Calls Try.prog 28 #[.string s] w fun e w' => e = .returned (.tuple #[.int .u64 (numS s : Nat), .string (recS s), .bool (wholeB s)]) ∧ Below w.heap.size w w' := by
  have hp := fun W => open_ref s W hs
  have hu := opened_size s hs
  cases hw : wholeB s
  · have h1 : numS s = 0 := by unfold numS; rw [hw]; rfl
    have h2 : recS s = { data := #[] } := by unfold recS; rw [hw]; rfl
    rw [h1, h2]
    clear h1 h2
    cases ho : okB s
    · rw [ho] at hp
      clear hw ho
      generalize openS s = u at *
      go_enter Try.func28, Try.ntmps28
      go_wp2_with fail
      refine (hp _).mono ?_
      rintro e w1 ⟨rfl, G1⟩
      go_wp2
      (try simp only [Exit.inBlock, Exit.then])
      exact bodyPost_ret (results_tmp3 rfl _ _ _) rfl ⟨rfl, G1.below⟩
    · rw [ho] at hp
      by_cases h10 : 10 ≤ (openS s).size
      · have hne : ¬ lenT (openS s) + 10 = (openS s).size := fun e => by
          have := (whole_iff s).2 ⟨ho, h10, e⟩
          rw [hw] at this; cases this
        have hg0 : ∀ W, Calls Try.prog 37 #[.string (openS s), .int .i64 0, .int .i64 8] W fun e w' => e = .returned (.tuple #[.int .u64 (be (((openS s).data.toList.drop 0).take 8) : Nat), .bool true]) ∧ W = w' := fun W => refGet_yes (openS s) 0 8 W (by unfold maxLen; omega) (by decide) (by decide) (by omega)
        have hg1 : ∀ W, Calls Try.prog 37 #[.string (openS s), .int .i64 8, .int .i64 2] W fun e w' => e = .returned (.tuple #[.int .u64 (be (((openS s).data.toList.drop 8).take 2) : Nat), .bool true]) ∧ W = w' := fun W => refGet_yes (openS s) 8 2 W (by unfold maxLen; omega) (by decide) (by decide) (by omega)
        have hl : lenT (openS s) < 65536 := lenT_lt _
        unfold lenT at hne hl
        generalize be (((openS s).data.toList.drop 8).take 2) = n at *
        generalize be (((openS s).data.toList.drop 0).take 8) = q at *
        have ht : (((openS s).size : Int) != (n : Int) + 10) = true := by rw [bne_iff_ne]; omega
        have hz : ¬ ((openS s).size : Int) < 10 := by omega
        clear hw ho hne h10
        generalize openS s = u at *
        go_enter Try.func28, Try.ntmps28
        go_wp2_with fail
        refine (hp _).mono ?_
        rintro e w1 ⟨rfl, G1⟩
        go_wp2_with fail
        refine (hg0 _).mono ?_
        rintro e w' ⟨rfl, rfl⟩
        clear hg0
        go_wp2_with fail
        refine (hg1 _).mono ?_
        rintro e w' ⟨rfl, rfl⟩
        clear hg1
        go_wp2
        (try simp only [Exit.inBlock, Exit.then])
        exact bodyPost_ret (results_tmp3 rfl _ _ _) rfl ⟨rfl, G1.below⟩
      · have hz : ((openS s).size : Int) < 10 := by omega
        clear hw ho h10
        generalize openS s = u at *
        go_enter Try.func28, Try.ntmps28
        go_wp2_with fail
        refine (hp _).mono ?_
        rintro e w1 ⟨rfl, G1⟩
        go_wp2
        (try simp only [Exit.inBlock, Exit.then])
        exact bodyPost_ret (results_tmp3 rfl _ _ _) rfl ⟨rfl, G1.below⟩
  · obtain ⟨ho, h10, hlen⟩ := (whole_iff s).1 hw
    rw [ho] at hp
    have hg0 : ∀ W, Calls Try.prog 37 #[.string (openS s), .int .i64 0, .int .i64 8] W fun e w' => e = .returned (.tuple #[.int .u64 (be (((openS s).data.toList.drop 0).take 8) : Nat), .bool true]) ∧ W = w' := fun W => refGet_yes (openS s) 0 8 W (by unfold maxLen; omega) (by decide) (by decide) (by omega)
    have hg1 : ∀ W, Calls Try.prog 37 #[.string (openS s), .int .i64 8, .int .i64 2] W fun e w' => e = .returned (.tuple #[.int .u64 (be (((openS s).data.toList.drop 8).take 2) : Nat), .bool true]) ∧ W = w' := fun W => refGet_yes (openS s) 8 2 W (by unfold maxLen; omega) (by decide) (by decide) (by omega)
    have hl : lenT (openS s) < 65536 := lenT_lt _
    have HN : Hid (numS s = be (((openS s).data.toList.drop 0).take 8)) := Lib.hid (by unfold numS numT; rw [if_pos hw])
    have HR : Hid (recS s = (openS s).extract 10 (openS s).size) := Lib.hid (by unfold recS; rw [if_pos hw])
    unfold lenT at hlen hl
    generalize be (((openS s).data.toList.drop 8).take 2) = n at *
    generalize be (((openS s).data.toList.drop 0).take 8) = q at *
    have ht : (((openS s).size : Int) != (n : Int) + 10) = false := by rw [bne_eq_false_iff_eq]; omega
    have hz : ¬ ((openS s).size : Int) < 10 := by omega
    clear hw ho hlen
    generalize openS s = u at *
    go_enter Try.func28, Try.ntmps28
    go_wp2_with fail
    refine (hp _).mono ?_
    rintro e w1 ⟨rfl, G1⟩
    go_wp2_with fail
    refine (hg0 _).mono ?_
    rintro e w' ⟨rfl, rfl⟩
    clear hg0
    go_wp2_with fail
    refine (hg1 _).mono ?_
    rintro e w' ⟨rfl, rfl⟩
    clear hg1
    go_upto_region 8 with fail
    go_region
    all_goals
      go_wp2
      (try simp only [Exit.inBlock, Exit.then])
      exact bodyPost_ret (results_tmp3 rfl _ _ _) rfl ⟨by rw [HN.out, HR.out]; rfl, (G1.drew).below⟩
end Go.Proofs.Ytimdemidnleiiaa
