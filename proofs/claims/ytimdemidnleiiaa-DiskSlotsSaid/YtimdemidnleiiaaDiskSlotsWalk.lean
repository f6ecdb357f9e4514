/- The walk of 'DiskSlots'. -/
import Derived.Test.YtimdemidnleiiaaDiskOpen
set_option linter.unusedVariables false
set_option linter.unusedSimpArgs false
namespace Go.Proofs.Ytimdemidnleiiaa
open Go.RowKit Go.Sort

/-- What an act leaves of the slots, and of what is read. -/
inductive SlotsD (d : Dk) (x : DAc) : Prop
  | big (c : codeD x.data = 3) (e : stepD d x = d)
  | first (c : codeD x.data = 0) (a : (stepD d x).a = d.a)
  | second (c : codeD x.data = 0) (a : ¬ (stepD d x).a = d.a) (b : (stepD d x).b = d.b)
theorem slots_any (d : Dk) (x : DAc) : SlotsD d x := by
  by_cases hs : x.data.size ≤ 8192
  · have hc : codeD x.data = 0 := by unfold codeD; rw [if_pos hs]
    by_cases ha : (stepD d x).a = d.a
    · exact .first hc ha
    · rcases (step_one d x).1 with h | h
      · exact absurd h ha
      · exact .second hc ha h
  · have hc : codeD x.data = 3 := by unfold codeD; rw [if_neg hs]
    exact .big hc ((step_one d x).2 (by rw [hc]; decide))
theorem bytes_ne {a b : ByteArray} (h : ¬ a = b) : (a.toList == b.toList) = false := by
  rw [beq_eq_false_iff_ne]
  intro e
  exact h (toList_inj e)

set_option maxHeartbeats 4000000 in
set_option maxRecDepth 100000 in
theorem full_DiskSlots (ao : Option Addr) (len cap : Nat) (l : List DAc) (w : World) (hl : Lst encDA 3 w ao len l) (hle : len ≤ maxLen) (hok : ∀ m ∈ l, m.ok) :
    Calls Try.prog 6 #[.slice ao len cap] w fun e w' => e = .returned (.bool true) ∧ Below w.heap.size w w' := by
  have hlen := hl.size
  have HL := Lib.hid hl
  have HOK := Lib.hid hok
  clear hl hok
  go_enter Try.func6, Try.ntmps6
  go_wp2_with fail
  refine (dawake _).mono ?_
  rintro e w1 ⟨rfl, L1⟩
  go_wp2_with fail
  refine (dfew ao len cap l w1 (HL.out.below L1) hle HOK.out).mono ?_
  rintro e w' ⟨⟨bf, rfl⟩, rfl⟩
  cases bf
  · go_wp2
    go_ret
    exact ⟨rfl, L1⟩
  go_wp2_with fail
  refine (dnew w1).mono ?_
  rintro e w2 ⟨rfl, A2, L2'⟩
  have L2 := L1.trans (L2'.mono L1.size)
  have hs1 := L1.size
  generalize w1.heap.size = g at *
  clear L1 L2'
  unfold maxLen at hle
  go_wp2
  go_loopw [4] (fun i wr => ∃ (k : Nat) (d : Dk), k ≤ len ∧ i = .int .i64 k ∧ DkAt wr g d ∧ Below w.heap.size w wr) (fun i _ => len - (intOf i).toNat)
  case atStart => exact ⟨0, newD0, Nat.zero_le _, rfl, A2, L2⟩
  case round =>
    obtain ⟨k, d, hk, rfl, A, L⟩ := hrel
    clear A2 L2
    by_cases hlt : k < len
    · have hkl : k < l.length := by omega
      obtain ⟨b, o, rfl, R⟩ := (HL.out.below L).src (by omega)
      have hx := List.getElem?_eq_getElem hkl
      have ha := HOK.out _ (List.getElem_mem hkl)
      generalize l[k] = x at hx ha
      have HX := Lib.hid hx
      have S0 : Calls Try.prog 15 #[.pointer (some ⟨g, 0, none⟩), .int .i64 0] wr fun e w' => e = .returned (.string d.a) ∧ wr = w' := dslot A 0 (by decide) (by decide)
      have S1 : Calls Try.prog 15 #[.pointer (some ⟨g, 0, none⟩), .int .i64 1] wr fun e w' => e = .returned (.string d.b) ∧ wr = w' := dslot A 1 (by decide) (by decide)
      have S0 := Lib.hid S0
      have S1 := Lib.hid S1
      have RD := Lib.hid (dread A)
      have HA := Lib.hid A
      have HLL := Lib.hid L
      have hgr := A.lt
      have hgs := L.size
      clear A L R hx hkl
      go_upto_region 10 with (go_at_call 15; first | (with_reducible refine S0.out.mono ?_; rintro e w' ⟨rfl, rfl⟩) | (with_reducible refine S1.out.mono ?_; rintro e w' ⟨rfl, rfl⟩))
      clear S0 S1
      go_upto_region 11 with (go_at_call 13; refine RD.out.mono ?_; rintro e w3 ⟨rfl, L3⟩)
      have A3 := HA.out.below L3
      have LL3 := HLL.out.trans (L3.mono hgs)
      clear RD HA HLL L3
      have HACT : Hid (Calls Try.prog 10 #[.pointer (some ⟨g, 0, none⟩), .agg #[.string x.data, .bool x.tear, .int .i64 x.keep]] w3 fun e w' => e = .returned (.int .i64 (codeD x.data)) ∧ DkAt w' g (stepD d x) ∧ w3.grownBy w' (some g)) := Lib.hid (dact A3 x ha)
      obtain ⟨b', o', e', R'⟩ := (HL.out.below LL3).src (by omega)
      cases e'
      obtain ⟨c0, c1, c2⟩ := dlst_at R' k x HX.out
      clear R' A3
      have hg3 := LL3.size
      go_upto_region 12 with (go_at_call 10; refine HACT.out.mono ?_; rintro e w4 ⟨rfl, A4, G4⟩)
      have L4 := LL3.grown G4 (by omega) (fun k hk => by cases hk; omega)
      clear c0 c1 c2 G4 LL3 HACT
      have S0 : Calls Try.prog 15 #[.pointer (some ⟨g, 0, none⟩), .int .i64 0] w4 fun e w' => e = .returned (.string (stepD d x).a) ∧ w4 = w' := dslot A4 0 (by decide) (by decide)
      have S1 : Calls Try.prog 15 #[.pointer (some ⟨g, 0, none⟩), .int .i64 1] w4 fun e w' => e = .returned (.string (stepD d x).b) ∧ w4 = w' := dslot A4 1 (by decide) (by decide)
      have RD := Lib.hid (dread A4)
      have HA4 := Lib.hid A4
      have HL4 := Lib.hid L4
      have TR := Lib.hid (tear_read d x.data x.keep)
      have ST := Lib.hid (show x.tear = true → stepD d x = tearD d x.data x.keep from fun h => by unfold stepD; rw [if_pos h])
      have hg4 := L4.size
      clear A4 L4
      have rest : ∀ w5, Below w4.heap.size w4 w5 → DkAt w5 g (stepD d x) ∧ Below w.heap.size w w5 := fun w5 h => ⟨HA4.out.below h, HL4.out.trans (h.mono hg4)⟩
      have rest := Lib.hid rest
      have cells : ∀ w5, Below w4.heap.size w4 w5 → w5.cell? ⟨b, o + k * 3 + 1, none⟩ = some (.bool x.tear) := fun w5 h => by
        obtain ⟨b', o', e', R'⟩ := (HL.out.below (rest.out w5 h).2).src (by omega)
        cases e'
        exact (dlst_at R' k x HX.out).2.1
      have cells := Lib.hid cells
      have hcase := slots_any d x
      obtain ⟨f1, hf1⟩ : ∃ f1, fndB (stepD d x) = f1 := ⟨_, rfl⟩
      obtain ⟨r1, hr1⟩ : ∃ r1, recD (stepD d x) = r1 := ⟨_, rfl⟩
      have same : x.tear = true → f1 = fndB d ∧ r1 = recD d := fun h => by
        rw [← hf1, ← hr1, ST.out h]
        exact ⟨TR.out.1, TR.out.2.1⟩
      have same := Lib.hid same
      rw [hf1, hr1] at RD
      clear hf1 hr1 TR ST
      have fin : Hid (∀ w5, Below w4.heap.size w4 w5 → ∃ (k' : Nat) (d' : Dk), k' ≤ len ∧ Value.int .i64 ((k : Int) + 1) = .int .i64 (k' : Int) ∧ DkAt w5 g d' ∧ Below w.heap.size w w5) := Lib.hid (fun w5 h => ⟨k + 1, stepD d x, by omega, by go_num, (rest.out w5 h).1, (rest.out w5 h).2⟩)
      cases hcase
      case big c e =>
        rw [e] at S0 S1
        rw [c]
        clear c e
        have S0 := Lib.hid S0
        have S1 := Lib.hid S1
        go_upto_region 14 with (go_at_call 15; first | (with_reducible refine S0.out.mono ?_; rintro e w' ⟨rfl, rfl⟩) | (with_reducible refine S1.out.mono ?_; rintro e w' ⟨rfl, rfl⟩))
        go_upto_region 15 with (go_at_call 13; refine RD.out.mono ?_; rintro e w5 ⟨rfl, L5⟩)
        have c1 := cells.out _ L5
        have HF := Lib.hid (fin.out _ L5)
        clear rest cells fin L5 RD S0 S1
        cases ht : x.tear
        · rw [ht] at c1
          go_wp2
          go_roundw
          case rel => exact HF.out
          case measure => simp [intOf]; omega
        · obtain ⟨rfl, rfl⟩ := same.out ht
          rw [ht] at c1
          go_wp2
          go_roundw
          case rel => exact HF.out
          case measure => simp [intOf]; omega
      case first c e =>
        rw [e] at S0
        rw [c]
        clear c e
        have S0 := Lib.hid S0
        have S1 := Lib.hid S1
        go_upto_region 14 with (go_at_call 15; first | (with_reducible refine S0.out.mono ?_; rintro e w' ⟨rfl, rfl⟩) | (with_reducible refine S1.out.mono ?_; rintro e w' ⟨rfl, rfl⟩))
        go_upto_region 15 with (go_at_call 13; refine RD.out.mono ?_; rintro e w5 ⟨rfl, L5⟩)
        have c1 := cells.out _ L5
        have HF := Lib.hid (fin.out _ L5)
        clear rest cells fin L5 RD S0 S1
        cases ht : x.tear
        · rw [ht] at c1
          go_wp2
          go_roundw
          case rel => exact HF.out
          case measure => simp [intOf]; omega
        · obtain ⟨rfl, rfl⟩ := same.out ht
          rw [ht] at c1
          go_wp2
          go_roundw
          case rel => exact HF.out
          case measure => simp [intOf]; omega
      case second c e e2 =>
        rw [e2] at S1
        rw [c]
        have hne := bytes_ne e
        generalize (stepD d x).a = a' at S0 hne
        clear c e e2
        have S0 := Lib.hid S0
        have S1 := Lib.hid S1
        go_upto_region 14 with (go_at_call 15; first | (with_reducible refine S0.out.mono ?_; rintro e w' ⟨rfl, rfl⟩) | (with_reducible refine S1.out.mono ?_; rintro e w' ⟨rfl, rfl⟩))
        go_upto_region 15 with (go_at_call 13; refine RD.out.mono ?_; rintro e w5 ⟨rfl, L5⟩)
        have c1 := cells.out _ L5
        have HF := Lib.hid (fin.out _ L5)
        clear rest cells fin L5 RD S0 S1
        cases ht : x.tear
        · rw [ht] at c1
          go_wp2
          go_roundw
          case rel => exact HF.out
          case measure => simp [intOf]; omega
        · obtain ⟨rfl, rfl⟩ := same.out ht
          rw [ht] at c1
          go_wp2
          go_roundw
          case rel => exact HF.out
          case measure => simp [intOf]; omega
    · go_wp2
      go_ret
      exact ⟨rfl, L⟩
theorem walk_DiskSlots {w : World} (ao : Option Addr) (len cap : Nat) (l : List DAc) (hl : Lst encDA 3 w ao len l ∧ len ≤ maxLen ∧ ∀ m ∈ l, m.ok) :
    Calls Try.prog 6 #[.slice ao len cap] w fun e w' => e = .returned (.bool true) ∧ Below w.heap.size w w' := full_DiskSlots ao len cap l w hl.1 hl.2.1 hl.2.2
end Go.Proofs.Ytimdemidnleiiaa
