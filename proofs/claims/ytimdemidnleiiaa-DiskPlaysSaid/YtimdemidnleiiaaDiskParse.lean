/- Parsing a slot; the newest slot; the next one: the program's. -/
import Derived.Test.YtimdemidnleiiaaDiskFns
import Derived.Test.YtimdemidnleiiaaRefGet
import Derived.StillTailTactics
import Derived.Deep.DeepCutAuto
set_option linter.unusedVariables false
set_option linter.unusedSimpArgs false
namespace Go.Proofs.Ytimdemidnleiiaa
open Go.RowKit Go.Sort

/-- Some number, if there is room. -/
theorem dget_some (s : ByteArray) (hs : s.size ≤ 1099511627776) : ∃ (v : Int) (b : Bool), ∀ W, Calls Try.prog 35 #[.string s, .int .i64 0, .int .i64 8] W fun e w' => e = .returned (.tuple #[.int .u64 v, .bool b]) ∧ W = w' := by
  by_cases h : 8 ≤ s.size
  · exact ⟨_, _, fun W => get_yes s 0 8 W (by unfold maxLen; omega) (by decide) (by decide) (by omega)⟩
  · exact ⟨_, _, fun W => get_no s 0 8 W (by unfold maxLen; omega) (by decide) (by decide) (by decide) (by decide) (by omega)⟩

set_option maxHeartbeats 2000000 in
theorem dparse_no (s : ByteArray) (w : World) (hs : s.size ≤ 1099511627776) (h : wholeB s = false) :
    Calls Try.prog 27 #[.string s] w fun e w' => e = .returned (.tuple #[.agg #[.int .u64 0, .string { data := #[] }], .bool false]) ∧ Below w.heap.size w w' := by
  have hp := fun W => open_any s W hs
  have hu : (openS s).size ≤ 1099511627776 := by
    unfold openS
    split
    · rw [ByteArray.size_extract]; omega
    · exact Nat.zero_le _
  cases ho : okB s
  · rw [ho] at hp
    clear h ho
    generalize openS s = u at *
    go_enter Try.func27, Try.ntmps27
    go_wp2_with fail
    refine (hp _).mono ?_
    rintro e w1 ⟨rfl, G1⟩
    have B1 : RecB w1 w.heap.size 0 { data := #[] } := (RecB.new w 0 { data := #[] }).below G1.below (by simp)
    have HB := Lib.hid (dbelowRow (((Grw.refl w).alloc _).trans G1).below w.heap.size (Nat.le_refl _) #[.int .u64 ((0 : Nat) : Int), .string { data := #[] }])
    go_wp2_with (refine store_drec rfl (.tmp 2) (.tmp 16) rfl w.heap.size 0 { data := #[] } rfl rfl B1 ?_)
    (try simp only [Exit.inBlock, Exit.then])
    exact bodyPost_ret (results_drec rfl _ _ w.heap.size rfl (B1.put _ _)) rfl ⟨rfl, HB.out⟩
  · rw [ho] at hp
    by_cases h10 : 10 ≤ (openS s).size
    · have hne : ¬ lenT (openS s) + 10 = (openS s).size := fun e => by
        have := (whole_iff s).2 ⟨ho, h10, e⟩
        rw [h] at this; cases this
      have hg0 : ∀ W, Calls Try.prog 35 #[.string (openS s), .int .i64 0, .int .i64 8] W fun e w' => e = .returned (.tuple #[.int .u64 (be (((openS s).data.toList.drop 0).take 8) : Nat), .bool true]) ∧ W = w' := fun W => get_yes (openS s) 0 8 W (by unfold maxLen; omega) (by decide) (by decide) (by omega)
      have hg1 : ∀ W, Calls Try.prog 35 #[.string (openS s), .int .i64 8, .int .i64 2] W fun e w' => e = .returned (.tuple #[.int .u64 (be (((openS s).data.toList.drop 8).take 2) : Nat), .bool true]) ∧ W = w' := fun W => get_yes (openS s) 8 2 W (by unfold maxLen; omega) (by decide) (by decide) (by omega)
      have hl : lenT (openS s) < 65536 := lenT_lt _
      unfold lenT at hne hl
      obtain ⟨m, hm⟩ : ∃ m : Nat, ((openS s).size : Int) - 10 = (m : Int) := ⟨(openS s).size - 10, by omega⟩
      generalize be (((openS s).data.toList.drop 8).take 2) = n at *
      generalize be (((openS s).data.toList.drop 0).take 8) = q at *
      have ht : ((n : Int) != (m : Int)) = true := by rw [bne_iff_ne]; omega
      have hml : m < 1099511627776 := by omega
      clear h ho hne h10
      generalize openS s = u at *
      go_enter Try.func27, Try.ntmps27
      go_wp2_with fail
      refine (hp _).mono ?_
      rintro e w1 ⟨rfl, G1⟩
      have B1 : RecB w1 w.heap.size 0 { data := #[] } := (RecB.new w 0 { data := #[] }).below G1.below (by simp)
      have HB := Lib.hid (dbelowRow (((Grw.refl w).alloc _).trans G1).below w.heap.size (Nat.le_refl _) #[.int .u64 ((0 : Nat) : Int), .string { data := #[] }])
      clear G1
      go_wp2_with fail
      refine (hg0 _).mono ?_
      rintro e w' ⟨rfl, rfl⟩
      clear hg0
      go_wp2_with fail
      refine (hg1 _).mono ?_
      rintro e w' ⟨rfl, rfl⟩
      clear hg1
      go_wp2_with (refine store_drec rfl (.tmp 2) (.tmp 37) rfl w.heap.size 0 { data := #[] } rfl rfl B1 ?_)
      (try simp only [Exit.inBlock, Exit.then])
      exact bodyPost_ret (results_drec rfl _ _ w.heap.size rfl (B1.put _ _)) rfl ⟨rfl, HB.out⟩
    · obtain ⟨v, b, hg0⟩ := dget_some (openS s) hu
      have hg1 := fun W => get_no (openS s) 8 2 W (by unfold maxLen; omega) (by decide) (by decide) (by decide) (by decide) (by omega)
      clear h ho h10
      generalize openS s = u at *
      go_enter Try.func27, Try.ntmps27
      go_wp2_with fail
      refine (hp _).mono ?_
      rintro e w1 ⟨rfl, G1⟩
      have B1 : RecB w1 w.heap.size 0 { data := #[] } := (RecB.new w 0 { data := #[] }).below G1.below (by simp)
      have HB := Lib.hid (dbelowRow (((Grw.refl w).alloc _).trans G1).below w.heap.size (Nat.le_refl _) #[.int .u64 ((0 : Nat) : Int), .string { data := #[] }])
      clear G1
      go_wp2_with fail
      refine (hg0 _).mono ?_
      rintro e w' ⟨rfl, rfl⟩
      clear hg0
      go_wp2_with fail
      refine (hg1 _).mono ?_
      rintro e w' ⟨rfl, rfl⟩
      clear hg1
      go_wp2_with (refine store_drec rfl (.tmp 2) (.tmp 37) rfl w.heap.size 0 { data := #[] } rfl rfl B1 ?_)
      (try simp only [Exit.inBlock, Exit.then])
      exact bodyPost_ret (results_drec rfl _ _ w.heap.size rfl (B1.put _ _)) rfl ⟨rfl, HB.out⟩

set_option maxHeartbeats 2000000 in
theorem dparse_yes (s : ByteArray) (w : World) (hs : s.size ≤ 1099511627776) (h : wholeB s = true) :
    Calls Try.prog 27 #[.string s] w fun e w' => e = .returned (.tuple #[.agg #[.int .u64 (numS s : Nat), .string (recS s)], .bool true]) ∧ Below w.heap.size w w' := by
  have hp := fun W => open_any s W hs
  obtain ⟨ho, h10, hlen⟩ := (whole_iff s).1 h
  have hu : (openS s).size ≤ 1099511627776 := by
    unfold openS
    rw [if_pos ho, ByteArray.size_extract]; omega
  rw [ho] at hp
  have hg0 : ∀ W, Calls Try.prog 35 #[.string (openS s), .int .i64 0, .int .i64 8] W fun e w' => e = .returned (.tuple #[.int .u64 (be (((openS s).data.toList.drop 0).take 8) : Nat), .bool true]) ∧ W = w' := fun W => get_yes (openS s) 0 8 W (by unfold maxLen; omega) (by decide) (by decide) (by omega)
  have hg1 : ∀ W, Calls Try.prog 35 #[.string (openS s), .int .i64 8, .int .i64 2] W fun e w' => e = .returned (.tuple #[.int .u64 (be (((openS s).data.toList.drop 8).take 2) : Nat), .bool true]) ∧ W = w' := fun W => get_yes (openS s) 8 2 W (by unfold maxLen; omega) (by decide) (by decide) (by omega)
  have hl : lenT (openS s) < 65536 := lenT_lt _
  have HN : Hid (numS s = be (((openS s).data.toList.drop 0).take 8)) := Lib.hid (by unfold numS numT; rw [if_pos h])
  have HR : Hid (recS s = (openS s).extract 10 (openS s).size) := Lib.hid (by unfold recS; rw [if_pos h])
  unfold lenT at hlen hl
  generalize be (((openS s).data.toList.drop 8).take 2) = n at *
  generalize be (((openS s).data.toList.drop 0).take 8) = q at *
  have hm : ((openS s).size : Int) - 10 = (n : Int) := by omega
  have h10' : 10 ≤ (openS s).size := h10
  clear h ho hlen
  generalize openS s = u at *
  go_enter Try.func27, Try.ntmps27
  go_wp2_with fail
  refine (hp _).mono ?_
  rintro e w1 ⟨rfl, G1⟩
  have B1 : RecB w1 w.heap.size 0 { data := #[] } := (RecB.new w 0 { data := #[] }).below G1.below (by simp)
  have HB := Lib.hid (dbelowRow (((Grw.refl w).alloc (.cells #[.int .u64 ((0 : Nat) : Int), .string { data := #[] }] 50)).trans G1).below w.heap.size (Nat.le_refl _) #[.int .u64 (q : Int), .string (u.extract 10 u.size)])
  clear G1
  go_wp2_with fail
  refine (hg0 _).mono ?_
  rintro e w' ⟨rfl, rfl⟩
  clear hg0
  go_wp2_with fail
  refine (hg1 _).mono ?_
  rintro e w' ⟨rfl, rfl⟩
  clear hg1
  go_wp2_with (refine store_drec rfl (.tmp 2) (.tmp 41) rfl w.heap.size q (u.extract 10 u.size) rfl rfl B1 ?_)
  (try simp only [Exit.inBlock, Exit.then])
  exact bodyPost_ret (results_drec rfl _ _ w.heap.size rfl (B1.put _ _)) rfl ⟨by rw [HN.out, HR.out]; rfl, HB.out⟩
theorem dparse (s : ByteArray) (w : World) (hs : s.size ≤ 1099511627776) :
    Calls Try.prog 27 #[.string s] w fun e w' => e = .returned (.tuple #[.agg #[.int .u64 (numS s : Nat), .string (recS s)], .bool (wholeB s)]) ∧ Below w.heap.size w w' := by
  cases h : wholeB s
  · have h1 : numS s = 0 := by unfold numS; rw [h]; rfl
    have h2 : recS s = { data := #[] } := by unfold recS; rw [h]; rfl
    rw [h1, h2]
    exact dparse_no s w hs h
  · exact dparse_yes s w hs h
end Go.Proofs.Ytimdemidnleiiaa
