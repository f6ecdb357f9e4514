/- The document's Last and Newest. -/
import Derived.Test.YtekgkeapdlgobaaAbove
import Derived.Test.YtekgkeapdlgobaaRefCmp
import Derived.BigQuiet
set_option linter.unusedVariables false
set_option linter.unusedSimpArgs false
namespace Go.Proofs.Ytekgkeapdlgobaa
open Go.RowKit Go.Sort

/-- None of the first k comes behind x. -/
def noneBehind (x : K) (l : List K) (k : Nat) : Bool := (l.take k).all fun y => !x.less y
theorem noneBehind_zero (x : K) (l : List K) : noneBehind x l 0 = true := by unfold noneBehind; simp
theorem noneBehind_next (x y : K) (l : List K) (k : Nat) (h : l[k]? = some y) : noneBehind x l (k + 1) = (noneBehind x l k && !x.less y) := by
  obtain ⟨hlt, rfl⟩ := List.getElem?_eq_some_iff.1 h
  unfold noneBehind
  rw [List.take_succ_eq_append_getElem hlt, List.all_append]
  simp only [List.all_cons, List.all_nil, Bool.and_true]
theorem noneBehind_last (x : K) (l : List K) (k : Nat) (hk : l.length ≤ k) (hx : x ∈ l) (h : noneBehind x l k = true) : lastK l = x := by
  unfold noneBehind at h
  rw [List.take_of_length_le hk] at h
  refine lastK_unique l x hx fun y hy => ?_
  have := List.all_eq_true.1 h y hy
  simpa using this
theorem noneBehind_of (l : List K) (k : Nat) (hl : l ≠ []) : noneBehind (lastK l) l k = true := by
  unfold noneBehind
  refine List.all_eq_true.2 fun y hy => ?_
  rw [lastK_ge l y (List.mem_of_mem_take hy)]
  rfl

set_option maxHeartbeats 2000000 in
theorem refLast_any (ao : Option Addr) (len cap : Nat) (l : List K) (w : World) (h : Lst encK 2 w ao len l) (hl : len ≤ 1099511627776) :
    Calls Try.prog 15 #[.slice ao len cap] w fun e w' => e = .returned (.agg #[.int .u64 (lastK l).n, .int .i64 (lastK l).p]) ∧ Below w.heap.size w w' := by
  have HL := Lib.hid h.size
  have HS := Lib.hid h
  have mixed : Try.prog.follows .mixedOrders = true := by kernel_rfl
  clear h
  go_enter Try.func15, Try.ntmps15
  go_wp2
  go_loopw [3] (fun si wr => ∃ i : Nat, i ≤ len ∧ si = .int .i64 i ∧ Two wr w.heap.size (.int .u64 0) (.int .i64 0) ∧ Below w.heap.size w wr ∧ Hid (∀ j x, j < i → l[j]? = some x → noneBehind x l len = false))
    (fun si _ => len - (intOf si).toNat)
  case atStart =>
    refine ⟨0, Nat.zero_le _, rfl, ⟨?_, ?_, ?_, ?_⟩, (Below.refl _ _).alloc (Nat.le_refl _) _, Lib.hid fun j x h => by omega⟩
    all_goals simp
  case round =>
    obtain ⟨i, hi, rfl, R, hB, HN⟩ := hrel
    have HB := Lib.hid hB
    have HR := Lib.hid R
    clear R
    by_cases hlt : i < len
    · obtain ⟨b, o, rfl, hr⟩ := HS.out.src (by omega)
      have hlt' : i < l.length := by rw [HL.out]; exact hlt
      obtain ⟨x, hx⟩ : ∃ x, l[i]? = some x := ⟨_, List.getElem?_eq_getElem hlt'⟩
      have HX := Lib.hid hx
      have HRW := Lib.hid hr
      clear hx hr hlt' hB
      go_wp2
      go_loopw [4, 5] (fun sok sk w2 => ∃ k : Nat, k ≤ len ∧ sk = .int .i64 k ∧ sok = .bool (noneBehind x l k) ∧ Two w2 w.heap.size (.int .u64 0) (.int .i64 0) ∧ Below w.heap.size w w2)
        (fun _ sk _ => len - (intOf sk).toNat)
      case atStart => exact ⟨0, Nat.zero_le _, rfl, by rw [noneBehind_zero], HR.out, HB.out⟩
      case round =>
        obtain ⟨k, hk, rfl, rfl, R2, hB2⟩ := hrel
        have HB2 := Lib.hid hB2
        have HR2 := Lib.hid R2
        clear R2
        by_cases hlk : k < len
        · have hlk' : k < l.length := by rw [HL.out]; exact hlk
          obtain ⟨y, hy⟩ : ∃ y, l[k]? = some y := ⟨_, List.getElem?_eq_getElem hlk'⟩
          have HY := Lib.hid (noneBehind_next x y l k hy)
          have e0 : w.cell? ⟨b, o + i * 2, none⟩ = some (.int .u64 x.n) := HRW.out i x HX.out 0 _ rfl
          have e1 : w.cell? ⟨b, o + i * 2 + 1, none⟩ = some (.int .i64 x.p) := HRW.out i x HX.out 1 _ rfl
          have e2 : w.cell? ⟨b, o + k * 2, none⟩ = some (.int .u64 y.n) := HRW.out k y hy 0 _ rfl
          have e3 : w.cell? ⟨b, o + k * 2 + 1, none⟩ = some (.int .i64 y.p) := HRW.out k y hy 1 _ rfl
          have c0 := fun n os => cell_grown (World.block_lt_of_cell? _ _ (cell_later hB2 e0)) (cell_later hB2 e0) n os
          have c1 := fun n os => cell_grown (World.block_lt_of_cell? _ _ (cell_later hB2 e1)) (cell_later hB2 e1) n os
          have c2 := fun n os => cell_grown (World.block_lt_of_cell? _ _ (cell_later hB2 e2)) (cell_later hB2 e2) n os
          have c3 := fun n os => cell_grown (World.block_lt_of_cell? _ _ (cell_later hB2 e3)) (cell_later hB2 e3) n os
          clear e0 e1 e2 e3 hy hlk' hB2
          cases hn : noneBehind x l k with
          | true =>
            rw [hn] at HY
            clear hn
            have hz : ∀ W, Calls Try.prog 30 #[.agg #[.int .u64 x.n, .int .i64 x.p], .agg #[.int .u64 y.n, .int .i64 y.p]] W fun e w' => e = .returned (.bool (x.less y)) ∧ Grw W w' := less_any x y
            generalize x.less y = r at HY hz
            generalize x.n = xn at *
            generalize x.p = xp at *
            generalize y.n = yn at *
            generalize y.p = yp at *
            go_wp2_with fail
            go_quiet_grown ((go_at_call 30; exact Calls.grown_of (hz _)))
            go_wp2
            go_roundw
            case rel => exact ⟨k + 1, by omega, by go_num, by rw [HY.out]; simp, HR2.out.below (Grw.below ⟨nq, osq, rfl⟩) HR2.out.lt, HB2.out.trans ((Grw.below ⟨nq, osq, rfl⟩).mono HB2.out.size)⟩
            case measure => simp [intOf]; omega
          | false =>
            rw [hn] at HY
            clear hn
            go_wp2_with fail
            go_big_region_o
            all_goals go_wp2
            go_roundw
            case rel => exact ⟨k + 1, by omega, by go_num, by rw [HY.out]; simp, HR2.out.below ((Below.refl _ _).drew) HR2.out.lt, HB2.out.drew⟩
            case measure => simp [intOf]; omega
        · have hkl : k = len := by omega
          have HKL := Lib.hid hkl
          clear hkl
          cases hn : noneBehind x l k with
          | true =>
            have hlast : lastK l = x := noneBehind_last x l k (by rw [HL.out]; omega) (List.mem_of_getElem? HX.out) hn
            have HZ := Lib.hid hlast
            obtain ⟨r0, r1, q0, q1⟩ := HR2.out
            have e0 : w.cell? ⟨b, o + i * 2, none⟩ = some (.int .u64 x.n) := HRW.out i x HX.out 0 _ rfl
            have e1 : w.cell? ⟨b, o + i * 2 + 1, none⟩ = some (.int .i64 x.p) := HRW.out i x HX.out 1 _ rfl
            have c0 := cell_later hB2 e0
            have c1 := cell_later hB2 e1
            clear e0 e1 hn hlast hB2
            obtain ⟨xn, xp⟩ := x
            simp only at c0 c1
            go_wp2
            obtain ⟨t0, t1, _, _⟩ := Two.set HR2.out (.int .u64 xn) (.int .i64 xp)
            exact bodyPost_ret (v := .agg #[.int .u64 xn, .int .i64 xp]) (by simp [results, Try.results15, go_sem, t0, t1]) rfl ⟨by rw [HZ.out], (HB2.out.setCell (by simp) _).setCell (by simp) _⟩
          | false =>
            have HNO := Lib.hid hn
            clear hn hB2
            go_wp2
            go_roundw
            case rel =>
              refine ⟨i + 1, by omega, by go_num, HR2.out, HB2.out, Lib.hid fun j z hj hz => ?_⟩
              by_cases hji : j = i
              · subst hji
                rw [HX.out] at hz
                cases hz
                rw [← HKL.out]; exact HNO.out
              · exact HN.out j z (by omega) hz
            case measure => simp [intOf]; omega
    · have hil : i = len := by omega
      have hnil : l = [] := by
        by_cases h0 : l = []
        · exact h0
        · obtain ⟨j, hj, hjx⟩ := List.mem_iff_getElem.1 (lastK_mem l h0)
          have := HN.out j (lastK l) (by rw [HL.out] at hj; omega) (by rw [List.getElem?_eq_getElem hj, hjx])
          rw [noneBehind_of l len h0] at this
          cases this
      have HNIL := Lib.hid hnil
      obtain ⟨r0, r1, q0, q1⟩ := HR.out
      clear hil hnil hB
      go_wp2
      obtain ⟨t0, t1, _, _⟩ := Two.set HR.out (.int .u64 0) (.int .i64 0)
      exact bodyPost_ret (v := .agg #[.int .u64 0, .int .i64 0]) (by simp [results, Try.results15, go_sem, t0, t1]) rfl ⟨by rw [HNIL.out]; rfl, (HB.out.setCell (by simp) _).setCell (by simp) _⟩

set_option maxHeartbeats 2000000 in
theorem refNewest_any (ao : Option Addr) (len cap : Nat) (l : List K) (w : World) (h : Lst encK 2 w ao len l) (hl : len ≤ 1099511627776) :
    Calls Try.prog 17 #[.slice ao len cap] w fun e w' => e = .returned (.agg #[.int .u64 (lastK l).n, .int .i64 (lastK l).p]) ∧ Below w.heap.size w w' := by
  have HL := Lib.hid h.size
  have HS := Lib.hid h
  have mixed : Try.prog.follows .mixedOrders = true := by kernel_rfl
  clear h
  go_enter Try.func17, Try.ntmps17
  go_wp2
  go_loopw [3] (fun si wr => ∃ i : Nat, i ≤ len ∧ si = .int .i64 i ∧ Two wr w.heap.size (.int .u64 0) (.int .i64 0) ∧ Below w.heap.size w wr ∧ Hid (∀ j x, j < i → l[j]? = some x → noneBehind x l len = false))
    (fun si _ => len - (intOf si).toNat)
  case atStart =>
    refine ⟨0, Nat.zero_le _, rfl, ⟨?_, ?_, ?_, ?_⟩, (Below.refl _ _).alloc (Nat.le_refl _) _, Lib.hid fun j x h => by omega⟩
    all_goals simp
  case round =>
    obtain ⟨i, hi, rfl, R, hB, HN⟩ := hrel
    have HB := Lib.hid hB
    have HR := Lib.hid R
    clear R
    by_cases hlt : i < len
    · obtain ⟨b, o, rfl, hr⟩ := HS.out.src (by omega)
      have hlt' : i < l.length := by rw [HL.out]; exact hlt
      obtain ⟨x, hx⟩ : ∃ x, l[i]? = some x := ⟨_, List.getElem?_eq_getElem hlt'⟩
      have HX := Lib.hid hx
      have HRW := Lib.hid hr
      clear hx hr hlt' hB
      go_wp2
      go_loopw [4, 5] (fun sok sk w2 => ∃ k : Nat, k ≤ len ∧ sk = .int .i64 k ∧ sok = .bool (noneBehind x l k) ∧ Two w2 w.heap.size (.int .u64 0) (.int .i64 0) ∧ Below w.heap.size w w2)
        (fun _ sk _ => len - (intOf sk).toNat)
      case atStart => exact ⟨0, Nat.zero_le _, rfl, by rw [noneBehind_zero], HR.out, HB.out⟩
      case round =>
        obtain ⟨k, hk, rfl, rfl, R2, hB2⟩ := hrel
        have HB2 := Lib.hid hB2
        have HR2 := Lib.hid R2
        clear R2
        by_cases hlk : k < len
        · have hlk' : k < l.length := by rw [HL.out]; exact hlk
          obtain ⟨y, hy⟩ : ∃ y, l[k]? = some y := ⟨_, List.getElem?_eq_getElem hlk'⟩
          have HY := Lib.hid (noneBehind_next x y l k hy)
          have e0 : w.cell? ⟨b, o + i * 2, none⟩ = some (.int .u64 x.n) := HRW.out i x HX.out 0 _ rfl
          have e1 : w.cell? ⟨b, o + i * 2 + 1, none⟩ = some (.int .i64 x.p) := HRW.out i x HX.out 1 _ rfl
          have e2 : w.cell? ⟨b, o + k * 2, none⟩ = some (.int .u64 y.n) := HRW.out k y hy 0 _ rfl
          have e3 : w.cell? ⟨b, o + k * 2 + 1, none⟩ = some (.int .i64 y.p) := HRW.out k y hy 1 _ rfl
          have c0 := fun n os => cell_grown (World.block_lt_of_cell? _ _ (cell_later hB2 e0)) (cell_later hB2 e0) n os
          have c1 := fun n os => cell_grown (World.block_lt_of_cell? _ _ (cell_later hB2 e1)) (cell_later hB2 e1) n os
          have c2 := fun n os => cell_grown (World.block_lt_of_cell? _ _ (cell_later hB2 e2)) (cell_later hB2 e2) n os
          have c3 := fun n os => cell_grown (World.block_lt_of_cell? _ _ (cell_later hB2 e3)) (cell_later hB2 e3) n os
          clear e0 e1 e2 e3 hy hlk' hB2
          cases hn : noneBehind x l k with
          | true =>
            rw [hn] at HY
            clear hn
            have hz : ∀ W, Calls Try.prog 31 #[.agg #[.int .u64 x.n, .int .i64 x.p], .agg #[.int .u64 y.n, .int .i64 y.p]] W fun e w' => e = .returned (.bool (x.less y)) ∧ Grw W w' := confLess_any x y
            generalize x.less y = r at HY hz
            generalize x.n = xn at *
            generalize x.p = xp at *
            generalize y.n = yn at *
            generalize y.p = yp at *
            go_wp2_with fail
            go_quiet_grown ((go_at_call 31; exact Calls.grown_of (hz _)))
            go_wp2
            go_roundw
            case rel => exact ⟨k + 1, by omega, by go_num, by rw [HY.out]; simp, HR2.out.below (Grw.below ⟨nq, osq, rfl⟩) HR2.out.lt, HB2.out.trans ((Grw.below ⟨nq, osq, rfl⟩).mono HB2.out.size)⟩
            case measure => simp [intOf]; omega
          | false =>
            rw [hn] at HY
            clear hn
            go_wp2_with fail
            go_big_region_o
            all_goals go_wp2
            go_roundw
            case rel => exact ⟨k + 1, by omega, by go_num, by rw [HY.out]; simp, HR2.out.below ((Below.refl _ _).drew) HR2.out.lt, HB2.out.drew⟩
            case measure => simp [intOf]; omega
        · have hkl : k = len := by omega
          have HKL := Lib.hid hkl
          clear hkl
          cases hn : noneBehind x l k with
          | true =>
            have hlast : lastK l = x := noneBehind_last x l k (by rw [HL.out]; omega) (List.mem_of_getElem? HX.out) hn
            have HZ := Lib.hid hlast
            obtain ⟨r0, r1, q0, q1⟩ := HR2.out
            have e0 : w.cell? ⟨b, o + i * 2, none⟩ = some (.int .u64 x.n) := HRW.out i x HX.out 0 _ rfl
            have e1 : w.cell? ⟨b, o + i * 2 + 1, none⟩ = some (.int .i64 x.p) := HRW.out i x HX.out 1 _ rfl
            have c0 := cell_later hB2 e0
            have c1 := cell_later hB2 e1
            clear e0 e1 hn hlast hB2
            obtain ⟨xn, xp⟩ := x
            simp only at c0 c1
            go_wp2
            obtain ⟨t0, t1, _, _⟩ := Two.set HR2.out (.int .u64 xn) (.int .i64 xp)
            exact bodyPost_ret (v := .agg #[.int .u64 xn, .int .i64 xp]) (by simp [results, Try.results17, go_sem, t0, t1]) rfl ⟨by rw [HZ.out], (HB2.out.setCell (by simp) _).setCell (by simp) _⟩
          | false =>
            have HNO := Lib.hid hn
            clear hn hB2
            go_wp2
            go_roundw
            case rel =>
              refine ⟨i + 1, by omega, by go_num, HR2.out, HB2.out, Lib.hid fun j z hj hz => ?_⟩
              by_cases hji : j = i
              · subst hji
                rw [HX.out] at hz
                cases hz
                rw [← HKL.out]; exact HNO.out
              · exact HN.out j z (by omega) hz
            case measure => simp [intOf]; omega
    · have hil : i = len := by omega
      have hnil : l = [] := by
        by_cases h0 : l = []
        · exact h0
        · obtain ⟨j, hj, hjx⟩ := List.mem_iff_getElem.1 (lastK_mem l h0)
          have := HN.out j (lastK l) (by rw [HL.out] at hj; omega) (by rw [List.getElem?_eq_getElem hj, hjx])
          rw [noneBehind_of l len h0] at this
          cases this
      have HNIL := Lib.hid hnil
      obtain ⟨r0, r1, q0, q1⟩ := HR.out
      clear hil hnil hB
      go_wp2
      obtain ⟨t0, t1, _, _⟩ := Two.set HR.out (.int .u64 0) (.int .i64 0)
      exact bodyPost_ret (v := .agg #[.int .u64 0, .int .i64 0]) (by simp [results, Try.results17, go_sem, t0, t1]) rfl ⟨by rw [HNIL.out]; rfl, (HB.out.setCell (by simp) _).setCell (by simp) _⟩
end Go.Proofs.Ytekgkeapdlgobaa
