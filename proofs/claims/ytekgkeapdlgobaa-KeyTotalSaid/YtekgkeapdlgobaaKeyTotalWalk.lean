/- The walk of 'KeyTotal'. -/
import Derived.Test.YtekgkeapdlgobaaKeyAwake
import Derived.Laws.StructEq
import Derived.BigQuiet
import Derived.Deep.DeepCutAuto
set_option linter.unusedVariables false
set_option linter.unusedSimpArgs false
namespace Go.Proofs.Ytekgkeapdlgobaa
open Go.RowKit Go.Sort

/-- How two keys stand, by their numbers. -/
def kI (an ap bn bp : Int) : Int := kcmp ⟨an, ap⟩ ⟨bn, bp⟩
/-- Are two keys one, by their numbers? -/
def eI (an ap bn bp : Int) : Bool := decide (an = bn ∧ ap = bp)
theorem eqK (an ap bn bp : Int) (w : World) : (binOp .eql 24 (.agg #[.int .u64 an, .int .i64 ap]) (.agg #[.int .u64 bn, .int .i64 bp])).run Try.prog w = .ok (.bool (eI an ap bn bp)) w := by
  have hS : Try.prog.underlying 24 = some (.struct (Try.prog.fieldsOf 24)) := by kernel_rfl
  have hp : Try.prog.stoodInHeld 24 = false := by kernel_rfl
  rw [run_eql_struct, show (10000 : Nat) = 9999 + 1 from rfl, run_equalIn_agg w 9999 24 _ _ hS hp]
  simp only [Program.fieldsOf, Try.underlying24]
  go_simp
  unfold eI
  by_cases h1 : an = bn <;> by_cases h2 : ap = bp <;> simp [h1, h2]
theorem eqC (an ap bn bp : Int) (w : World) : (binOp .eql 26 (.agg #[.int .u64 an, .int .i64 ap]) (.agg #[.int .u64 bn, .int .i64 bp])).run Try.prog w = .ok (.bool (eI an ap bn bp)) w := by
  have hS : Try.prog.underlying 26 = some (.struct (Try.prog.fieldsOf 26)) := by kernel_rfl
  have hp : Try.prog.stoodInHeld 26 = false := by kernel_rfl
  rw [run_eql_struct, show (10000 : Nat) = 9999 + 1 from rfl, run_equalIn_agg w 9999 26 _ _ hS hp]
  simp only [Program.fieldsOf, Try.underlying26]
  go_simp
  unfold eI
  by_cases h1 : an = bn <;> by_cases h2 : ap = bp <;> simp [h1, h2]

theorem Two.grown {w : World} {g : Nat} {a b : Value} (h : Two w g a b) : (∀ n os, (grow (w.drewN n) os).cell? ⟨g, 0, none⟩ = some a) ∧ (∀ n os, (grow (w.drewN n) os).cell? ⟨g, 1, none⟩ = some b) :=
  ⟨cell_grown h.lt h.c0, cell_grown h.lt h.c1⟩
theorem Two.new (w : World) (a b : Value) (t : TypeId) : Two (w.alloc (.cells #[a, b] t)) w.heap.size a b := ⟨by simp, by simp, by simp, by simp⟩

theorem kI_three (an ap bn bp cn cp : Int) :
    (kI an ap bn bp = 0 ∧ kI bn bp an ap = 0 ∧ eI an ap bn bp = true) ∨ (kI an ap bn bp = 1 ∧ kI bn bp an ap = -1 ∧ eI an ap bn bp = false) ∨
    (kI an ap bn bp = -1 ∧ kI bn bp an ap = 1 ∧ eI an ap bn bp = false ∧ kI bn bp cn cp = -1 ∧ kI an ap cn cp = -1) ∨ (kI an ap bn bp = -1 ∧ kI bn bp an ap = 1 ∧ eI an ap bn bp = false ∧ decide (kI bn bp cn cp < 0) = false) := by
  unfold kI
  cases h1 : K.less ⟨an, ap⟩ ⟨bn, bp⟩ with
  | true =>
    have e : eI an ap bn bp = false := by
      rw [K.less_iff] at h1
      unfold eI
      simp only at h1
      simp only [decide_eq_false_iff_not]
      omega
    cases h2 : K.less ⟨bn, bp⟩ ⟨cn, cp⟩ with
    | true => exact .inr (.inr (.inl ⟨kcmp_lt h1, kcmp_gt h1, e, kcmp_lt h2, kcmp_lt (K.less_trans h1 h2)⟩))
    | false => exact .inr (.inr (.inr ⟨kcmp_lt h1, kcmp_gt h1, e, by
        have := (kcmp_neg ⟨bn, bp⟩ ⟨cn, cp⟩)
        rw [h2] at this
        refine decide_eq_false fun hc => ?_
        have := this.1 hc
        cases this⟩))
  | false =>
    cases h2 : K.less ⟨bn, bp⟩ ⟨an, ap⟩ with
    | true =>
      have e : eI an ap bn bp = false := by
        rw [K.less_iff] at h2
        unfold eI
        simp only at h2
        simp only [decide_eq_false_iff_not]
        omega
      exact .inr (.inl ⟨kcmp_gt h2, kcmp_lt h2, e⟩)
    | false =>
      have := K.eq_of h1 h2
      injection this with e1 e2
      subst e1 e2
      exact .inl ⟨kcmp_eq h1 h2, kcmp_eq h1 h2, by unfold eI; simp⟩

set_option maxHeartbeats 8000000 in
set_option maxRecDepth 1000000 in
theorem walk_KeyTotal (an ap bn bp cn cp dn dp en ep fn fp : Int) (w : World) :
    Calls Try.prog 5 #[.agg #[.int .u64 an, .int .i64 ap], .agg #[.int .u64 bn, .int .i64 bp], .agg #[.int .u64 cn, .int .i64 cp], .agg #[.int .u64 dn, .int .i64 dp], .agg #[.int .u64 en, .int .i64 ep], .agg #[.int .u64 fn, .int .i64 fp]] w
      fun e w' => e = .returned (.bool true) ∧ Below w.heap.size w w' := by
  have mixed : Try.prog.follows .mixedOrders = true := by kernel_rfl
  have hk : ∀ (an ap bn bp : Int) W, Calls Try.prog 10 #[.agg #[.int .u64 an, .int .i64 ap], .agg #[.int .u64 bn, .int .i64 bp]] W fun e w' => e = .returned (.int .i64 (kI an ap bn bp)) ∧ Grw W w' := fun an ap bn bp => compare_any ⟨an, ap⟩ ⟨bn, bp⟩
  have hf : ∀ (an ap bn bp : Int) W, Calls Try.prog 12 #[.agg #[.int .u64 an, .int .i64 ap], .agg #[.int .u64 bn, .int .i64 bp]] W fun e w' => e = .returned (.int .i64 (kI an ap bn bp)) ∧ Grw W w' := fun an ap bn bp => confs_any ⟨an, ap⟩ ⟨bn, bp⟩
  have HK := Lib.hid hk
  have HF := Lib.hid hf
  clear hk hf
  have H3 := Lib.hid kI_three
  have HEK := Lib.hid eqK
  have HEC := Lib.hid eqC
  go_enter Try.func5, Try.ntmps5
  go_wp2_with fail
  refine (awake3_any _).mono ?_
  rintro e w1 ⟨rfl, hB1⟩
  have T0 : Hid (Two w1 (w.heap.size) (.int .u64 an) (.int .i64 ap)) := Lib.hid (by
    have := ((((((Two.new w (.int .u64 an) (.int .i64 ap) 24).alloc (.cells #[.int .u64 bn, .int .i64 bp] 24)).alloc (.cells #[.int .u64 cn, .int .i64 cp] 24)).alloc (.cells #[.int .u64 dn, .int .i64 dp] 26)).alloc (.cells #[.int .u64 en, .int .i64 ep] 26)).alloc (.cells #[.int .u64 fn, .int .i64 fp] 26)).below hB1 (by simp; omega)
    simpa using this)
  have T1 : Hid (Two w1 (w.heap.size + 1) (.int .u64 bn) (.int .i64 bp)) := Lib.hid (by
    have := (((((Two.new (w.alloc (.cells #[.int .u64 an, .int .i64 ap] 24)) (.int .u64 bn) (.int .i64 bp) 24).alloc (.cells #[.int .u64 cn, .int .i64 cp] 24)).alloc (.cells #[.int .u64 dn, .int .i64 dp] 26)).alloc (.cells #[.int .u64 en, .int .i64 ep] 26)).alloc (.cells #[.int .u64 fn, .int .i64 fp] 26)).below hB1 (by simp)
    simpa using this)
  have T2 : Hid (Two w1 (w.heap.size + 2) (.int .u64 cn) (.int .i64 cp)) := Lib.hid (by
    have := ((((Two.new ((w.alloc (.cells #[.int .u64 an, .int .i64 ap] 24)).alloc (.cells #[.int .u64 bn, .int .i64 bp] 24)) (.int .u64 cn) (.int .i64 cp) 24).alloc (.cells #[.int .u64 dn, .int .i64 dp] 26)).alloc (.cells #[.int .u64 en, .int .i64 ep] 26)).alloc (.cells #[.int .u64 fn, .int .i64 fp] 26)).below hB1 (by simp)
    simpa using this)
  have T3 : Hid (Two w1 (w.heap.size + 3) (.int .u64 dn) (.int .i64 dp)) := Lib.hid (by
    have := (((Two.new (((w.alloc (.cells #[.int .u64 an, .int .i64 ap] 24)).alloc (.cells #[.int .u64 bn, .int .i64 bp] 24)).alloc (.cells #[.int .u64 cn, .int .i64 cp] 24)) (.int .u64 dn) (.int .i64 dp) 26).alloc (.cells #[.int .u64 en, .int .i64 ep] 26)).alloc (.cells #[.int .u64 fn, .int .i64 fp] 26)).below hB1 (by simp)
    simpa using this)
  have T4 : Hid (Two w1 (w.heap.size + 4) (.int .u64 en) (.int .i64 ep)) := Lib.hid (by
    have := ((Two.new ((((w.alloc (.cells #[.int .u64 an, .int .i64 ap] 24)).alloc (.cells #[.int .u64 bn, .int .i64 bp] 24)).alloc (.cells #[.int .u64 cn, .int .i64 cp] 24)).alloc (.cells #[.int .u64 dn, .int .i64 dp] 26)) (.int .u64 en) (.int .i64 ep) 26).alloc (.cells #[.int .u64 fn, .int .i64 fp] 26)).below hB1 (by simp)
    simpa using this)
  have T5 : Hid (Two w1 (w.heap.size + 5) (.int .u64 fn) (.int .i64 fp)) := Lib.hid (by
    have := (Two.new (((((w.alloc (.cells #[.int .u64 an, .int .i64 ap] 24)).alloc (.cells #[.int .u64 bn, .int .i64 bp] 24)).alloc (.cells #[.int .u64 cn, .int .i64 cp] 24)).alloc (.cells #[.int .u64 dn, .int .i64 dp] 26)).alloc (.cells #[.int .u64 en, .int .i64 ep] 26)) (.int .u64 fn) (.int .i64 fp) 26).below hB1 (by simp)
    simpa using this)
  have HB : Hid (Below w.heap.size w w1) := Lib.hid (((((((Below.refl w.heap.size w).alloc (Nat.le_refl _) _).alloc (by simp) _).alloc (by simp; omega) _).alloc (by simp; omega) _).alloc (by simp; omega) _).alloc (by simp; omega) _ |>.trans (hB1.mono (by simp; omega)))
  have hz1 : w.heap.size + 6 ≤ w1.heap.size := by have := hB1.size; simp at this; omega
  clear hB1
  go_upto_region 3 with fail
  go_cut [51] (fun s wx => s = .bool false ∧ Grw w1 wx)
  case first =>
    obtain ⟨a0, a1⟩ := T0.out.grown
    obtain ⟨b0, b1⟩ := T1.out.grown
    obtain ⟨c0, c1⟩ := T2.out.grown
    have hq := HEK.out
    have hc := HK.out
    rcases H3.out an ap bn bp cn cp with ⟨r1, r2, r3⟩ | ⟨r1, r2, r3⟩ | ⟨r1, r2, r3, r4, r5⟩ | ⟨r1, r2, r3, r4⟩
    all_goals
      go_quiet_grown ((go_at_call 10; exact Calls.grown_of (hc _ _ _ _ _)))
      go_wp2_with fail
      go_meet
      exact ⟨rfl, ⟨nq, osq, rfl⟩⟩
  case rest =>
    obtain ⟨rfl, hG1⟩ := hcut
    have HG1 := Lib.hid hG1
    have T3 := Lib.hid (T3.out.below hG1.below T3.out.lt)
    have T4 := Lib.hid (T4.out.below hG1.below T4.out.lt)
    have T5 := Lib.hid (T5.out.below hG1.below T5.out.lt)
    clear hG1
    go_upto_region 5 with fail
    go_cut [87] (fun s wx => s = .bool false ∧ Grw wc wx)
    case first =>
      obtain ⟨a0, a1⟩ := T3.out.grown
      obtain ⟨b0, b1⟩ := T4.out.grown
      obtain ⟨c0, c1⟩ := T5.out.grown
      have hq := HEC.out
      have hc := HF.out
      rcases H3.out dn dp en ep fn fp with ⟨r1, r2, r3⟩ | ⟨r1, r2, r3⟩ | ⟨r1, r2, r3, r4, r5⟩ | ⟨r1, r2, r3, r4⟩
      all_goals
        go_quiet_grown ((go_at_call 12; exact Calls.grown_of (hc _ _ _ _ _)))
        go_wp2_with fail
        go_meet
        exact ⟨rfl, ⟨nq, osq, rfl⟩⟩
    case rest =>
      obtain ⟨rfl, hG2⟩ := hcut
      have HB2 := Lib.hid (HB.out.trans ((HG1.out.trans hG2).below.mono HB.out.size))
      have U0 := T0.out.below (HG1.out.trans hG2).below T0.out.lt
      have U1 := T1.out.below (HG1.out.trans hG2).below T1.out.lt
      have U2 := T2.out.below (HG1.out.trans hG2).below T2.out.lt
      have V0 := Lib.hid U0
      have V1 := Lib.hid U1
      have V2 := Lib.hid U2
      obtain ⟨a0, a1, _, _⟩ := U0
      obtain ⟨b0, b1, _, _⟩ := U1
      obtain ⟨c0, c1, _, _⟩ := U2
      clear hG2 HG1 T0 T1 T2 T3 T4 T5 HF HEC
      go_wp2_with fail
      refine (last_any _ 3 3 [⟨an, ap⟩, ⟨bn, bp⟩, ⟨cn, cp⟩] _ (lst_new (enc := encK) (k := 2) (fun _ => rfl) _ 3 (heap_at _ _ _ rfl) rfl rfl) (by decide)).mono ?_
      rintro e w3 ⟨rfl, hB3⟩
      obtain ⟨z, hz⟩ : ∃ z, z = lastK [⟨an, ap⟩, ⟨bn, bp⟩, ⟨cn, cp⟩] := ⟨_, rfl⟩
      have hzm : z = ⟨an, ap⟩ ∨ z = ⟨bn, bp⟩ ∨ z = ⟨cn, cp⟩ := by
        have := lastK_mem [⟨an, ap⟩, ⟨bn, bp⟩, ⟨cn, cp⟩] (by simp)
        rw [← hz] at this
        simpa using this
      have hge : ∀ x ∈ [(⟨an, ap⟩ : K), ⟨bn, bp⟩, ⟨cn, cp⟩], 0 ≤ kcmp z x := fun x hx => by
        have := lastK_ge _ x hx
        rw [← hz] at this
        rw [kcmp_anti]
        have := (kcmp_le x z).2 this
        omega
      rw [← hz]
      obtain ⟨zn, zp⟩ := z
      have r1 : 0 ≤ kI zn zp an ap := hge _ (by simp)
      have r2 : 0 ≤ kI zn zp bn bp := hge _ (by simp)
      have r3 : 0 ≤ kI zn zp cn cp := hge _ (by simp)
      have hzm2 : eI zn zp an ap = true ∨ eI zn zp bn bp = true ∨ eI zn zp cn cp = true := by
        unfold eI
        rcases hzm with h | h | h
        · injection h with h1 h2; exact .inl (by simp [h1, h2])
        · injection h with h1 h2; exact .inr (.inl (by simp [h1, h2]))
        · injection h with h1 h2; exact .inr (.inr (by simp [h1, h2]))
      have HZ := Lib.hid hzm2
      have hs2 := HB2.out.size
      have HB3 := Lib.hid ((HB2.out.alloc hs2 _).trans (hB3.mono (by simp; omega)))
      have Y0 := Lib.hid ((V0.out.alloc (.cells (flat encK [⟨an, ap⟩, ⟨bn, bp⟩, ⟨cn, cp⟩]).toArray 24)).below hB3 (by have := V0.out.lt; simp; omega))
      have Y1 := Lib.hid ((V1.out.alloc (.cells (flat encK [⟨an, ap⟩, ⟨bn, bp⟩, ⟨cn, cp⟩]).toArray 24)).below hB3 (by have := V1.out.lt; simp; omega))
      have Y2 := Lib.hid ((V2.out.alloc (.cells (flat encK [⟨an, ap⟩, ⟨bn, bp⟩, ⟨cn, cp⟩]).toArray 24)).below hB3 (by have := V2.out.lt; simp; omega))
      clear hz hzm hge hzm2 hB3 V0 V1 V2 HB2 a0 a1 b0 b1 c0 c1
      obtain ⟨a0, a1, _, _⟩ := Y0.out.alloc (.cells #[.int .u64 zn, .int .i64 zp] 24)
      have hlt := Y0.out.lt
      have hq := HEK.out
      go_wp2_with fail
      refine (HK.out _ _ _ _ _).mono ?_
      rintro e w4 ⟨rfl, hG⟩
      have hs3 := HB3.out.size
      have HB4 := Lib.hid ((HB3.out.alloc hs3 (.cells #[.int .u64 zn, .int .i64 zp] 24)).trans (hG.below.mono (by simp; omega)))
      have X0 := Lib.hid ((Y0.out.alloc (.cells #[.int .u64 zn, .int .i64 zp] 24)).below hG.below (by have := Y0.out.lt; simp; omega))
      have X1 := Lib.hid ((Y1.out.alloc (.cells #[.int .u64 zn, .int .i64 zp] 24)).below hG.below (by have := Y1.out.lt; simp; omega))
      have X2 := Lib.hid ((Y2.out.alloc (.cells #[.int .u64 zn, .int .i64 zp] 24)).below hG.below (by have := Y2.out.lt; simp; omega))
      have X3 := Lib.hid ((Two.new w3 (.int .u64 zn) (.int .i64 zp) 24).below hG.below (by simp))
      clear Y0 Y1 Y2 hG HB3 a0 a1 hlt
      obtain ⟨b0, b1, _, _⟩ := X1.out
      obtain ⟨z0, z1, _, _⟩ := X3.out
      go_wp2_with fail
      refine (HK.out _ _ _ _ _).mono ?_
      rintro e w5 ⟨rfl, hG⟩
      have Z0 := Lib.hid (X0.out.below hG.below X0.out.lt)
      have Z1 := Lib.hid (X1.out.below hG.below X1.out.lt)
      have Z2 := Lib.hid (X2.out.below hG.below X2.out.lt)
      have Z3 := Lib.hid (X3.out.below hG.below X3.out.lt)
      have HB5 := Lib.hid (HB4.out.trans (hG.below.mono HB4.out.size))
      clear X0 X1 X2 X3 hG HB4 b0 b1 z0 z1
      obtain ⟨c0, c1, _, _⟩ := Z2.out
      obtain ⟨z0, z1, _, _⟩ := Z3.out
      go_wp2_with fail
      refine (HK.out _ _ _ _ _).mono ?_
      rintro e w6 ⟨rfl, hG⟩
      obtain ⟨a0, a1, _, _⟩ := Z0.out.below hG.below Z0.out.lt
      obtain ⟨b0, b1, _, _⟩ := Z1.out.below hG.below Z1.out.lt
      replace c0 := (Z2.out.below hG.below Z2.out.lt).c0
      replace c1 := (Z2.out.below hG.below Z2.out.lt).c1
      replace z0 := (Z3.out.below hG.below Z3.out.lt).c0
      replace z1 := (Z3.out.below hG.below Z3.out.lt).c1
      have HB6 := Lib.hid (HB5.out.trans (hG.below.mono HB5.out.size))
      clear Z0 Z1 Z2 Z3 hG HB5
      cases e1 : eI zn zp an ap with
      | true =>
        go_wp2_with fail
        go_ret
        exact ⟨rfl, HB6.out⟩
      | false =>
        cases e2 : eI zn zp bn bp with
        | true =>
          go_wp2_with fail
          go_ret
          exact ⟨rfl, HB6.out⟩
        | false =>
          have e3 : eI zn zp cn cp = true := by
            rcases HZ.out with h | h | h
            · rw [e1] at h; cases h
            · rw [e2] at h; cases h
            · exact h
          go_wp2_with fail
          go_ret
          exact ⟨rfl, HB6.out⟩
end Go.Proofs.Ytekgkeapdlgobaa
