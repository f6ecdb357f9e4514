/- The walk of 'KeyOrders'. -/
import Derived.Test.YtekgkeapdlgobaaKeyAwake
import Derived.Test.YtekgkeapdlgobaaRefLast
import Derived.Laws.StructEq
import Derived.BigQuiet
import Derived.Deep.DeepCutAuto
set_option linter.unusedVariables false
set_option linter.unusedSimpArgs false
namespace Go.Proofs.Ytekgkeapdlgobaa
open Go.RowKit Go.Sort

/-- How two keys stand, by their numbers. -/
def kJ (an ap bn bp : Int) : Int := kcmp ⟨an, ap⟩ ⟨bn, bp⟩
theorem eqKs (n p : Int) (w : World) : (binOp .eql 24 (.agg #[.int .u64 n, .int .i64 p]) (.agg #[.int .u64 n, .int .i64 p])).run Try.prog w = .ok (.bool true) w := by
  have hS : Try.prog.underlying 24 = some (.struct (Try.prog.fieldsOf 24)) := by kernel_rfl
  have hp : Try.prog.stoodInHeld 24 = false := by kernel_rfl
  rw [run_eql_struct, show (10000 : Nat) = 9999 + 1 from rfl, run_equalIn_agg w 9999 24 _ _ hS hp]
  simp only [Program.fieldsOf, Try.underlying24]
  go_simp
theorem eqCs (n p : Int) (w : World) : (binOp .eql 26 (.agg #[.int .u64 n, .int .i64 p]) (.agg #[.int .u64 n, .int .i64 p])).run Try.prog w = .ok (.bool true) w := by
  have hS : Try.prog.underlying 26 = some (.struct (Try.prog.fieldsOf 26)) := by kernel_rfl
  have hp : Try.prog.stoodInHeld 26 = false := by kernel_rfl
  rw [run_eql_struct, show (10000 : Nat) = 9999 + 1 from rfl, run_equalIn_agg w 9999 26 _ _ hS hp]
  simp only [Program.fieldsOf, Try.underlying26]
  go_simp

theorem TwoK.grown {w : World} {g : Nat} {a b : Value} (h : Two w g a b) : (∀ n os, (grow (w.drewN n) os).cell? ⟨g, 0, none⟩ = some a) ∧ (∀ n os, (grow (w.drewN n) os).cell? ⟨g, 1, none⟩ = some b) :=
  ⟨cell_grown h.lt h.c0, cell_grown h.lt h.c1⟩
theorem TwoK.new (w : World) (a b : Value) (t : TypeId) : Two (w.alloc (.cells #[a, b] t)) w.heap.size a b := ⟨by simp, by simp, by simp, by simp⟩

set_option maxHeartbeats 8000000 in
set_option maxRecDepth 1000000 in
theorem walk_KeyOrders (w : World) (an ap bn bp cn cp dn dp : Int) (lo : Option Addr) (ll lc : Nat) (l : List K) (hinl : Lst encK 2 w lo ll l) (mo : Option Addr) (ml mc : Nat) (m : List K) (hinm : Lst encK 2 w mo ml m)
    (no : Option Addr) (nl nc : Nat) (u : List Int) (hinn : Lst encU 1 w no nl u ∧ Bd64 u) :
    Calls Try.prog 3 #[.agg #[.int .u64 an, .int .i64 ap], .agg #[.int .u64 bn, .int .i64 bp], .agg #[.int .u64 cn, .int .i64 cp], .agg #[.int .u64 dn, .int .i64 dp], .slice lo ll lc, .slice mo ml mc, .slice no nl nc] w
      fun e w' => e = .returned (.bool true) ∧ Below w.heap.size w w' := by
  have HL := Lib.hid hinl
  have HM := Lib.hid hinm
  have HN := Lib.hid hinn
  clear hinl hinm hinn
  have mixed : Try.prog.follows .mixedOrders = true := by kernel_rfl
  go_enter Try.func3, Try.ntmps3
  go_wp2_with fail
  refine (awake3_any _).mono ?_
  rintro e w1 ⟨rfl, hB1⟩
  have T0 : Hid (Two w1 w.heap.size (.int .u64 an) (.int .i64 ap)) := Lib.hid (by
    have := ((((TwoK.new w (.int .u64 an) (.int .i64 ap) 24).alloc (.cells #[.int .u64 bn, .int .i64 bp] 24)).alloc (.cells #[.int .u64 cn, .int .i64 cp] 26)).alloc (.cells #[.int .u64 dn, .int .i64 dp] 26)).below hB1 (by simp; omega)
    simpa using this)
  have T1 : Hid (Two w1 (w.heap.size + 1) (.int .u64 bn) (.int .i64 bp)) := Lib.hid (by
    have := (((TwoK.new (w.alloc (.cells #[.int .u64 an, .int .i64 ap] 24)) (.int .u64 bn) (.int .i64 bp) 24).alloc (.cells #[.int .u64 cn, .int .i64 cp] 26)).alloc (.cells #[.int .u64 dn, .int .i64 dp] 26)).below hB1 (by simp)
    simpa using this)
  have T2 : Hid (Two w1 (w.heap.size + 2) (.int .u64 cn) (.int .i64 cp)) := Lib.hid (by
    have := ((TwoK.new ((w.alloc (.cells #[.int .u64 an, .int .i64 ap] 24)).alloc (.cells #[.int .u64 bn, .int .i64 bp] 24)) (.int .u64 cn) (.int .i64 cp) 26).alloc (.cells #[.int .u64 dn, .int .i64 dp] 26)).below hB1 (by simp)
    simpa using this)
  have T3 : Hid (Two w1 (w.heap.size + 3) (.int .u64 dn) (.int .i64 dp)) := Lib.hid (by
    have := (TwoK.new (((w.alloc (.cells #[.int .u64 an, .int .i64 ap] 24)).alloc (.cells #[.int .u64 bn, .int .i64 bp] 24)).alloc (.cells #[.int .u64 cn, .int .i64 cp] 26)) (.int .u64 dn) (.int .i64 dp) 26).below hB1 (by simp)
    simpa using this)
  have HB : Hid (Below w.heap.size w w1) := Lib.hid (((((Below.refl w.heap.size w).alloc (Nat.le_refl _) _).alloc (by simp) _).alloc (by simp; omega) _).alloc (by simp; omega) _ |>.trans (hB1.mono (by simp; omega)))
  clear hB1
  by_cases h1 : (200 : Int) < ll
  · go_wp2_with fail
    go_ret
    exact ⟨rfl, HB.out⟩
  by_cases h2 : (200 : Int) < ml
  · go_wp2_with fail
    go_ret
    exact ⟨rfl, HB.out⟩
  by_cases h3 : (5000 : Int) < nl
  · go_wp2_with fail
    go_ret
    exact ⟨rfl, HB.out⟩
  go_upto_region 5 with fail
  go_cut [45] (fun s wx => s = .bool false ∧ Grw w1 wx)
  case first =>
    obtain ⟨a0, a1⟩ := TwoK.grown T0.out
    obtain ⟨b0, b1⟩ := TwoK.grown T1.out
    obtain ⟨c0, c1⟩ := TwoK.grown T2.out
    obtain ⟨d0, d1⟩ := TwoK.grown T3.out
    have hk1 : ∀ W, Calls Try.prog 10 #[.agg #[.int .u64 an, .int .i64 ap], .agg #[.int .u64 bn, .int .i64 bp]] W fun e w' => e = .returned (.int .i64 (kJ an ap bn bp)) ∧ Grw W w' := compare_any ⟨an, ap⟩ ⟨bn, bp⟩
    have hk2 : ∀ W, Calls Try.prog 11 #[.agg #[.int .u64 an, .int .i64 ap], .agg #[.int .u64 bn, .int .i64 bp]] W fun e w' => e = .returned (.int .i64 (kJ an ap bn bp)) ∧ Grw W w' := refCompare_any ⟨an, ap⟩ ⟨bn, bp⟩
    have hk3 : ∀ W, Calls Try.prog 12 #[.agg #[.int .u64 cn, .int .i64 cp], .agg #[.int .u64 dn, .int .i64 dp]] W fun e w' => e = .returned (.int .i64 (kJ cn cp dn dp)) ∧ Grw W w' := confs_any ⟨cn, cp⟩ ⟨dn, dp⟩
    have hk4 : ∀ W, Calls Try.prog 13 #[.agg #[.int .u64 cn, .int .i64 cp], .agg #[.int .u64 dn, .int .i64 dp]] W fun e w' => e = .returned (.int .i64 (kJ cn cp dn dp)) ∧ Grw W w' := refConfs_any ⟨cn, cp⟩ ⟨dn, dp⟩
    generalize kJ an ap bn bp = r1 at hk1 hk2
    generalize kJ cn cp dn dp = r2 at hk3 hk4
    go_quiet_grown (first
      | (go_at_call 10; exact Calls.grown_of (hk1 _))
      | (go_at_call 11; exact Calls.grown_of (hk2 _))
      | (go_at_call 12; exact Calls.grown_of (hk3 _))
      | (go_at_call 13; exact Calls.grown_of (hk4 _)))
    go_wp2_with fail
    go_meet
    exact ⟨rfl, ⟨nq, osq, rfl⟩⟩
  case rest =>
    obtain ⟨rfl, hG⟩ := hcut
    have HB2 := Lib.hid (HB.out.trans (hG.below.mono HB.out.size))
    clear hG HB T0 T1 T2 T3
    have hek := eqKs
    have hec := eqCs
    go_wp2_with fail
    refine (last_any lo ll lc l _ (HL.out.below HB2.out) (by omega)).mono ?_
    rintro e w2 ⟨rfl, hB⟩
    have HB3 := Lib.hid (HB2.out.trans (hB.mono HB2.out.size))
    clear hB HB2
    go_wp2_with fail
    refine (refLast_any lo ll lc l _ (HL.out.below HB3.out) (by omega)).mono ?_
    rintro e w3 ⟨rfl, hB⟩
    have HB4 := Lib.hid (HB3.out.trans (hB.mono HB3.out.size))
    clear hB HB3
    go_wp2_with fail
    refine (newest_any mo ml mc m _ (HM.out.below HB4.out) (by omega)).mono ?_
    rintro e w4 ⟨rfl, hB⟩
    have HB5 := Lib.hid (HB4.out.trans (hB.mono HB4.out.size))
    clear hB HB4
    go_wp2_with fail
    refine (refNewest_any mo ml mc m _ (HM.out.below HB5.out) (by omega)).mono ?_
    rintro e w5 ⟨rfl, hB⟩
    have HB6 := Lib.hid (HB5.out.trans (hB.mono HB5.out.size))
    clear hB HB5
    go_wp2_with fail
    refine (above_any no nl nc u _ (HN.out.1.below HB6.out) HN.out.2 (by omega)).mono ?_
    rintro e w6 ⟨rfl, rfl⟩
    go_wp2_with fail
    refine (refAbove_any no nl nc u _ (HN.out.1.below HB6.out) HN.out.2 (by omega)).mono ?_
    rintro e w6 ⟨rfl, rfl⟩
    go_wp2_with fail
    go_ret
    exact ⟨rfl, HB6.out⟩
end Go.Proofs.Ytekgkeapdlgobaa
