/- The walk of 'FrameBack'. -/
import Derived.Test.YtbciamoaohdbjaaFrameAwake
import Derived.Test.YtbciamoaohdbjaaTurned
set_option linter.unusedVariables false
set_option linter.unusedSimpArgs false
namespace Go.Proofs.Ytbciamoaohdbjaa
open Go.RowKit Go.Sort

theorem printz_turned (k f t : Nat) (b : ByteArray) (q m : Nat) (hq : q < (printz k f t b).size) (hm : 0 < m) (hm' : m < 256) : okB (turnedB (printz k f t b) q ((printz k f t b)[q].toNat ^^^ m)) = false :=
  sealed_turned (body k f t b) q m hq hm hm'
theorem back_long (k f t : Int) (b : ByteArray) (at_ mask : Int) (w : World) (h1 : (40000 : Int) < b.size) :
    Calls Try.prog 5 #[.agg #[.int .i64 k, .int .i64 f, .int .i64 t, .string b], .int .i64 at_, .int .u8 mask] w fun e w' => e = .returned (.bool true) ∧ Below w.heap.size w w' := by
  go_enter Try.func5, Try.ntmps5
  go_wp2_with fail
  refine (frameAwake_any _).mono ?_
  rintro e w1 ⟨rfl, L1⟩
  have B1 := (Box4.new w k f t b 23).below L1
  have d3 := B1.c3
  have L : Below w.heap.size w w1 := ((Grw.refl w).alloc _).below.trans (L1.mono (by simp))
  clear B1 L1
  go_wp2
  go_ret
  exact ⟨rfl, L⟩

set_option maxHeartbeats 2000000 in
theorem back_no (k f t : Int) (b : ByteArray) (at_ mask : Int) (w : World) (h1 : ¬ (40000 : Int) < b.size) (c : Int) (hc : fcode k f t b.size = c) (hn : c ≠ 0) :
    Calls Try.prog 5 #[.agg #[.int .i64 k, .int .i64 f, .int .i64 t, .string b], .int .i64 at_, .int .u8 mask] w fun e w' => e = .returned (.bool true) ∧ Below w.heap.size w w' := by
  have p1 := fun W => print_no k f t b W (by omega) c hc hn
  have hn' : ¬ c = 0 := hn
  clear hc
  go_enter Try.func5, Try.ntmps5
  go_wp2_with fail
  refine (frameAwake_any _).mono ?_
  rintro e w1 ⟨rfl, L1⟩
  have B1 := (Box4.new w k f t b 23).below L1
  have L : Below w.heap.size w w1 := ((Grw.refl w).alloc _).below.trans (L1.mono (by simp))
  have HL := Lib.hid L
  have d0 := B1.c0
  have d1 := B1.c1
  have d2 := B1.c2
  have d3 := B1.c3
  clear B1 L1 L
  go_wp2_with fail
  refine (p1 _).mono ?_
  rintro e w2 ⟨rfl, L2⟩
  have HL2 := Lib.hid (HL.out.trans (L2.mono HL.out.size))
  clear L2 d0 d1 d2 d3
  go_wp2
  go_ret
  exact ⟨rfl, HL2.out⟩

set_option maxHeartbeats 2000000 in
theorem back_yes (k f t : Nat) (b : ByteArray) (at_ : Int) (wat : (Lit.int .i64 at_).wf = true) (mask : Int) (wm : (Lit.int .u8 mask).wf = true) (w : World) (h1 : ¬ (40000 : Int) < b.size) (hc : fcode k f t b.size = 0) :
    Calls Try.prog 5 #[.agg #[.int .i64 (k : Int), .int .i64 (f : Int), .int .i64 (t : Int), .string b], .int .i64 at_, .int .u8 mask] w fun e w' => e = .returned (.bool true) ∧ Below w.heap.size w w' := by
  have mixed : Try.prog.follows .mixedOrders = true := by kernel_rfl
  obtain ⟨t0, t1⟩ := bd_i64 wat
  obtain ⟨m0, m1⟩ := bd_u8 wm
  have hb : b.size ≤ 40000 := by omega
  have p1 := fun W => print_yes k f t b W (by omega) hc
  have hzs := printz_size k f t b
  have p2 := fun W => parse_any (printz k f t b) W (by omega)
  obtain ⟨e0, e1, e2, e3, e4⟩ := parsed_printz hc
  rw [e0, e1, e2, e3, e4] at p2
  have HT := Lib.hid (printz_turned k f t b)
  have hz4 : (printz k f t b).size ≤ 50000 := by omega
  have hz11 : ¬ (printz k f t b).size < 11 := by omega
  clear e0 e1 e2 e3 e4 hzs hc wat wm
  by_cases h2 : at_ < 0 ∨ ((printz k f t b).size : Int) ≤ at_ ∨ mask = 0
  · clear HT
    generalize printz k f t b = z at *
    rcases h2 with h2 | h2 | h2
    all_goals
      go_enter Try.func5, Try.ntmps5
      go_wp2_with fail
      refine (frameAwake_any _).mono ?_
      rintro e w1 ⟨rfl, L1⟩
      have B1 := (Box4.new w k f t b 23).below L1
      have L : Below w.heap.size w w1 := ((Grw.refl w).alloc _).below.trans (L1.mono (by simp))
      have HL := Lib.hid L
      have HB := Lib.hid B1
      have d0 := B1.c0
      have d1 := B1.c1
      have d2 := B1.c2
      have d3 := B1.c3
      clear B1 L1 L
      go_wp2_with fail
      refine (p1 _).mono ?_
      rintro e w2 ⟨rfl, L2⟩
      have B2 := HB.out.below L2
      have HB2 := Lib.hid B2
      have HL2 := Lib.hid (HL.out.trans (L2.mono HL.out.size))
      clear d0 d1 d2 d3 L2 HL HB B2
      go_wp2_with fail
      refine (p2 _).mono ?_
      rintro e w3 ⟨rfl, L3⟩
      have B3 := HB2.out.below L3
      have B4 := B3.below ((Grw.refl w3).alloc (.cells #[.int .i64 (k : Int), .int .i64 (f : Int), .int .i64 (t : Int), .string b] 23)).below
      have d0 := B4.c0
      have d1 := B4.c1
      have d2 := B4.c2
      have d3 := B4.c3
      have L4 := HL2.out.trans (L3.mono HL2.out.size)
      have HL3 := Lib.hid (L4.alloc L4.size (.cells #[.int .i64 (k : Int), .int .i64 (f : Int), .int .i64 (t : Int), .string b] 23))
      clear B3 B4 L3 L4
      go_wp2
      all_goals
        go_ret
        exact ⟨rfl, HL3.out⟩
  obtain ⟨q, rfl⟩ := Int.eq_ofNat_of_zero_le (show 0 ≤ at_ by omega)
  obtain ⟨m, rfl⟩ := Int.eq_ofNat_of_zero_le m0
  generalize printz k f t b = z at *
  have hq : q < z.size := by omega
  have hd1 : decide ((q : Int) < 0) = false := by simp
  have hd2 : decide (z.size ≤ q) = false := by simp; omega
  have hd3 : decide ((z.size : Int) ≤ (q : Int)) = false := by simp; omega
  have hdm : ((m : Int) == 0) = false := by simp; omega
  have hm255 : m < 256 := by omega
  have HV := HT.out q m hq (by omega) hm255
  have hx := xor_u8 z[q].toNat m z[q].toNat_lt hm255
  have hc := xor_byte z[q].toNat_lt hm255
  clear HT h2 m0 m1 t0 t1
  generalize z[q].toNat ^^^ m = c at *
  have hts := turnedB_size (c := c) hq
  have ho := fun W => parse_any (turnedB z q c) W (by omega)
  have hpc : pc (turnedB z q c) = 8 := pc_sum (by omega) HV
  have hpn : pc (turnedB z q c) ≠ 0 := by rw [hpc]; decide
  rw [pk_bad hpn, pf_bad hpn, pt_bad hpn, pbody_bad hpn, hpc] at ho
  have HO := Lib.hid ho
  have hv1 : (z.extract 0 q).size ≤ 50000 := by rw [ByteArray.size_extract]; omega
  have hv2 : (z.extract (q + 1) z.size).size ≤ 50000 := by rw [ByteArray.size_extract]; omega
  have hv3 : (z.extract 0 q ++ byteB c).size ≤ 50001 := by rw [ByteArray.size_append, show (byteB c).size = 1 from rfl]; omega
  have hv4 : (z.extract 0 q ++ byteB c ++ z.extract (q + 1) z.size).size ≤ 100001 := by rw [ByteArray.size_append]; omega
  clear HV hpc hpn ho hts
  go_enter Try.func5, Try.ntmps5
  go_wp2_with fail
  refine (frameAwake_any _).mono ?_
  rintro e w1 ⟨rfl, L1⟩
  have B1 := (Box4.new w k f t b 23).below L1
  have L : Below w.heap.size w w1 := ((Grw.refl w).alloc _).below.trans (L1.mono (by simp))
  have HL := Lib.hid L
  have HB := Lib.hid B1
  have d0 := B1.c0
  have d1 := B1.c1
  have d2 := B1.c2
  have d3 := B1.c3
  clear B1 L1 L
  go_wp2_with fail
  refine (p1 _).mono ?_
  rintro e w2 ⟨rfl, L2⟩
  have B2 := HB.out.below L2
  have HB2 := Lib.hid B2
  have HL2 := Lib.hid (HL.out.trans (L2.mono HL.out.size))
  clear d0 d1 d2 d3 L2 HL HB B2
  go_wp2_with fail
  refine (p2 _).mono ?_
  rintro e w3 ⟨rfl, L3⟩
  have B3 := HB2.out.below L3
  have B4 := B3.below ((Grw.refl w3).alloc (.cells #[.int .i64 (k : Int), .int .i64 (f : Int), .int .i64 (t : Int), .string b] 23)).below
  have d0 := B4.c0
  have d1 := B4.c1
  have d2 := B4.c2
  have d3 := B4.c3
  have L4 := HL2.out.trans (L3.mono HL2.out.size)
  have L5 := L4.alloc L4.size (.cells #[.int .i64 (k : Int), .int .i64 (f : Int), .int .i64 (t : Int), .string b] 23)
  have HL3 := Lib.hid L5
  clear B3 B4 L3 L4 L5 p1 p2 HB2
  go_wp2
  clear d0 d1 d2 d3
  generalize w3.heap.size = g3 at *
  generalize w3.alloc (.cells #[.int .i64 (k : Int), .int .i64 (f : Int), .int .i64 (t : Int), .string b] 23) = w4 at *
  have cv : (convert 38 9 (.slice (some ⟨w4.heap.size, 0, none⟩) 1 1)).run Try.prog (w4.alloc (.cells #[.int .u8 (c : Int)] 5)).drew = .ok (.string (byteB c)) (w4.alloc (.cells #[.int .u8 (c : Int)] 5)).drew := conv_byte w4.drew c hc w4.heap.size rfl
  have hzo : (byteB c).size ≤ 1 := Nat.le_of_eq rfl
  have HW : Hid (∀ W, Calls Try.prog 12 #[.string (z.extract 0 q ++ byteB c ++ z.extract (q + 1) z.size)] W fun e w' => e = .returned (.tuple #[.agg #[.int .i64 ((0 : Nat) : Int), .int .i64 ((0 : Nat) : Int), .int .i64 ((0 : Nat) : Int), .string { data := #[] }], .int .i64 ((8 : Nat) : Int)]) ∧ Below W.heap.size W w') := HO.out
  clear HO
  generalize byteB c = y at *
  have hq1 : q + 1 ≤ z.size := by omega
  have hq2 : (q : Int) + 1 ≤ (z.size : Int) := by omega
  have hq3 : q ≤ z.size := by omega
  go_region
  go_wp2_with fail
  refine (HW.out _).mono ?_
  rintro e w5 ⟨rfl, L5⟩
  go_wp2
  go_ret
  have hA : Below w4.heap.size w4 (w4.alloc (.cells #[.int .u8 (c : Int)] 5)).drew := ((Grw.refl w4).alloc _).drew.below
  have hB := HL3.out.trans (hA.mono HL3.out.size)
  exact ⟨rfl, (hB.trans (L5.mono hB.size)).alloc (Nat.le_trans hB.size L5.size) _⟩

theorem walk_FrameBack (k f t : Int) (wk : (Lit.int .i64 k).wf = true) (wf : (Lit.int .i64 f).wf = true) (wt : (Lit.int .i64 t).wf = true) (b : ByteArray) (wb : b.size ≤ maxLen) (at_ : Int) (wat : (Lit.int .i64 at_).wf = true) (mask : Int) (wm : (Lit.int .u8 mask).wf = true) (w : World) :
    Calls Try.prog 5 #[.agg #[.int .i64 k, .int .i64 f, .int .i64 t, .string b], .int .i64 at_, .int .u8 mask] w fun e w' => e = .returned (.bool true) ∧ Below w.heap.size w w' := by
  by_cases h1 : (40000 : Int) < b.size
  · exact back_long k f t b at_ mask w h1
  by_cases hc : fcode k f t b.size = 0
  · have hm := fcode_may hc
    obtain ⟨k, rfl⟩ := Int.eq_ofNat_of_zero_le (show 0 ≤ k by omega)
    obtain ⟨f, rfl⟩ := Int.eq_ofNat_of_zero_le (show 0 ≤ f by omega)
    obtain ⟨t, rfl⟩ := Int.eq_ofNat_of_zero_le (show 0 ≤ t by omega)
    exact back_yes k f t b at_ wat mask wm w h1 hc
  · exact back_no k f t b at_ mask w h1 _ rfl hc
end Go.Proofs.Ytbciamoaohdbjaa
