/- The walk of 'KeyTurned'. -/
import Derived.Test.YtekgkeapdlgobaaKeyAwake
import Derived.Laws.StructEq
import Derived.IntWalk
set_option linter.unusedVariables false
set_option linter.unusedSimpArgs false
namespace Go.Proofs.Ytekgkeapdlgobaa
open Go.RowKit Go.Sort

theorem eqKt (n p : Int) (w : World) : (binOp .eql 24 (.agg #[.int .u64 n, .int .i64 p]) (.agg #[.int .u64 n, .int .i64 p])).run Try.prog w = .ok (.bool true) w := by
  have hS : Try.prog.underlying 24 = some (.struct (Try.prog.fieldsOf 24)) := by kernel_rfl
  have hp : Try.prog.stoodInHeld 24 = false := by kernel_rfl
  rw [run_eql_struct, show (10000 : Nat) = 9999 + 1 from rfl, run_equalIn_agg w 9999 24 _ _ hS hp]
  simp only [Program.fieldsOf, Try.underlying24]
  go_simp
theorem eqCt (n p : Int) (w : World) : (binOp .eql 26 (.agg #[.int .u64 n, .int .i64 p]) (.agg #[.int .u64 n, .int .i64 p])).run Try.prog w = .ok (.bool true) w := by
  have hS : Try.prog.underlying 26 = some (.struct (Try.prog.fieldsOf 26)) := by kernel_rfl
  have hp : Try.prog.stoodInHeld 26 = false := by kernel_rfl
  rw [run_eql_struct, show (10000 : Nat) = 9999 + 1 from rfl, run_equalIn_agg w 9999 26 _ _ hS hp]
  simp only [Program.fieldsOf, Try.underlying26]
  go_simp

/-- A row of the call's own, read as a slice. -/
theorem own_lst {α : Type} {enc : α → List Value} {k : Nat} {w : World} {base n cap : Nat} {t : TypeId} {ao : Option Addr} {l : List α} (hk : ∀ x, (enc x).length = k) (hl : l.length = n) (h : w.ownsRow base t k (.slice ao n cap) n (flat enc l)) : Lst enc k w ao n l := by
  refine ⟨hl, fun h0 => ?_⟩
  rcases h.2 with ⟨h', h''⟩ | ⟨g, c, cur, h', _⟩
  · omega
  · injection h' with h1 h2 h3
    subst h1
    refine ⟨g, 0, rfl, fun i x hx c v hv => ?_⟩
    have hc : c < k := by rw [← hk x]; exact (List.getElem?_eq_some_iff.1 hv).1
    have hil := (List.getElem?_eq_some_iff.1 hx).1
    have hb : i * k + c < n * k := by
      have := Nat.mul_le_mul_right k (show i + 1 ≤ n by omega)
      rw [Nat.add_mul, Nat.one_mul] at this
      omega
    rw [Nat.zero_add, h.cellAt (i * k + c) hb, flat_at enc k hk l i x hx c hc]
    exact hv

theorem own_form {w : World} {base n k : Nat} {t : TypeId} {v : Value} {xs : List Value} (h : w.ownsRow base t k v n xs) : ∃ ao cap, v = .slice ao n cap := by
  rcases h.2 with ⟨rfl, rfl⟩ | ⟨g, c, cur, rfl, _⟩
  · exact ⟨_, _, rfl⟩
  · exact ⟨_, _, rfl⟩
/-- Rows of two types lie in two blocks. -/
theorem own_apart {w : World} {base base' n n' k k' : Nat} {t t' : TypeId} {v v' : Value} {xs xs' : List Value} (h : w.ownsRow base t k v n xs) (h' : w.ownsRow base' t' k' v' n' xs') (hne : t ≠ t') : v.ownBlock = none ∨ v.ownBlock ≠ v'.ownBlock := by
  rcases h.2 with ⟨rfl, rfl⟩ | ⟨g, c, cur, rfl, _, hg, _⟩
  · exact .inl rfl
  · refine .inr ?_
    rcases h'.2 with ⟨rfl, rfl⟩ | ⟨g', c', cur', rfl, _, hg', _⟩
    · simp [Value.ownBlock]
    · intro e
      have : g = g' := by simpa [Value.ownBlock] using e
      subst this
      rw [hg] at hg'
      injection hg' with e1
      injection e1 with e2 e3
      exact hne e3

/-- The list, from place r on, and round. -/
def rotAt (l : List K) (r i : Nat) : K := l.getD ((i + r) % l.length) ⟨0, 0⟩
def rot (l : List K) (r k : Nat) : List K := (List.range k).map (rotAt l r)
theorem rot_succ (l : List K) (r k : Nat) : rot l r (k + 1) = rot l r k ++ [rotAt l r k] := by unfold rot; rw [List.range_succ, List.map_append]; rfl
theorem rot_length (l : List K) (r k : Nat) : (rot l r k).length = k := by unfold rot; simp
theorem rotAt_get (l : List K) (r i : Nat) (h : 0 < l.length) : l[(i + r) % l.length]? = some (rotAt l r i) := by
  have hlt := Nat.mod_lt (i + r) h
  unfold rotAt
  rw [List.getD_eq_getElem?_getD, List.getElem?_eq_getElem hlt]; rfl
theorem rot_mem (l : List K) (r : Nat) (hr : r < l.length) (x : K) : x ∈ rot l r l.length ↔ x ∈ l := by
  unfold rot
  constructor
  · intro h
    obtain ⟨i, _, rfl⟩ := List.mem_map.1 h
    exact List.mem_of_getElem? (rotAt_get l r i (by omega))
  · intro h
    obtain ⟨j, hj, rfl⟩ := List.mem_iff_getElem.1 h
    refine List.mem_map.2 ⟨(j + (l.length - r)) % l.length, List.mem_range.2 (Nat.mod_lt _ (by omega)), ?_⟩
    unfold rotAt
    rw [Nat.mod_add_mod, show j + (l.length - r) + r = j + l.length by omega, Nat.add_mod_right, Nat.mod_eq_of_lt hj, List.getD_eq_getElem?_getD, List.getElem?_eq_getElem hj]
    rfl
theorem lastK_rot (l : List K) (r : Nat) (hr : 0 < l.length → r < l.length) : lastK (rot l r l.length) = lastK l := by
  rcases Nat.eq_zero_or_pos l.length with h | h
  · have : l = [] := List.eq_nil_of_length_eq_zero h
    subst this; rfl
  · exact lastK_same _ _ fun x => rot_mem l r (hr h) x
theorem lastK_rev (l : List K) : lastK l.reverse = lastK l := lastK_same _ _ fun x => List.mem_reverse

theorem infoK : (Try.prog.info? 24).map (fun i => (i.zero, i.size, i.bytes)) = some (some (.agg #[.int .u64 0, .int .i64 0]), 2, 16) := by kernel_rfl
theorem infoC : (Try.prog.info? 26).map (fun i => (i.zero, i.size, i.bytes)) = some (some (.agg #[.int .u64 0, .int .i64 0]), 2, 16) := by kernel_rfl

set_option maxHeartbeats 4000000 in
theorem walk_KeyTurned (w : World) (lo : Option Addr) (ll lc : Nat) (l : List K) (hinl : Lst encK 2 w lo ll l) (mo : Option Addr) (ml mc : Nat) (m : List K) (hinm : Lst encK 2 w mo ml m) (t : Int) (wt : (Lit.int .i64 t).wf = true) :
    Calls Try.prog 8 #[.slice lo ll lc, .slice mo ml mc, .int .i64 t] w
      fun e w' => e = .returned (.bool true) ∧ Below w.heap.size w w' := by
  have HL := Lib.hid hinl
  have HM := Lib.hid hinm
  have hbt := Go.bounds_i64 wt
  have t1 : t ≤ 9223372036854775807 := by omega
  clear hinl hinm wt hbt
  by_cases h1 : (200 : Int) < ll
  · clear t1
    go_enter Try.func8, Try.ntmps8
    go_wp2_with fail
    refine (awake3_any _).mono ?_
    rintro e w1 ⟨rfl, hB⟩
    go_wp2_with fail
    go_ret
    exact ⟨rfl, hB⟩
  by_cases h2 : (200 : Int) < ml
  · clear t1
    go_enter Try.func8, Try.ntmps8
    go_wp2_with fail
    refine (awake3_any _).mono ?_
    rintro e w1 ⟨rfl, hB⟩
    go_wp2_with fail
    go_ret
    exact ⟨rfl, hB⟩
  by_cases h3 : t < 0
  · clear t1
    go_enter Try.func8, Try.ntmps8
    go_wp2_with fail
    refine (awake3_any _).mono ?_
    rintro e w1 ⟨rfl, hB⟩
    go_wp2_with fail
    go_ret
    exact ⟨rfl, hB⟩
  obtain ⟨tn, rfl⟩ : ∃ tn : Nat, t = tn := ⟨t.toNat, by omega⟩
  have htn : tn ≤ 9223372036854775807 := by omega
  have HT := Lib.hid htn
  clear htn t1 h3
  obtain ⟨i0, hi, hz0, hz1, hz2⟩ := info_parts infoK
  obtain ⟨i1, hi1, hz01, hz11, hz21⟩ := info_parts infoC
  go_enter Try.func8, Try.ntmps8
  go_wp2_with fail
  refine (awake3_any _).mono ?_
  rintro e w1 ⟨rfl, hB⟩
  have HB := Lib.hid hB
  have hll : ll ≤ 200 := by omega
  have hml : ml ≤ 200 := by omega
  clear hB
  go_wp2_with fail
  go_loopw [7, 9] (fun s7 si wr => ∃ k : Nat, k ≤ ll ∧ si = .int .i64 k ∧ wr.ownsRow w.heap.size 24 2 s7 k (flat encK (rot l (tn % ll) k)) ∧ Below w.heap.size w wr) (fun _ si _ => ll - (intOf si).toNat)
  case atStart => exact ⟨0, Nat.zero_le _, rfl, World.ownsRow_nil _ _ _ _, HB.out⟩
  case round =>
    obtain ⟨k, hk, rfl, hown, hBr⟩ := hrel
    by_cases hlt : k < ll
    · obtain ⟨b, o, rfl, hr⟩ := HL.out.src (by omega)
      have hll' : l.length = ll := HL.out.size
      have hx := rotAt_get l (tn % ll) k (by omega)
      rw [hll'] at hx
      obtain ⟨x, hxe⟩ : ∃ x, x = rotAt l (tn % ll) k := ⟨_, rfl⟩
      obtain ⟨q, hq⟩ : ∃ q, q = (k + tn % ll) % ll := ⟨_, rfl⟩
      obtain ⟨r, hrr⟩ : ∃ r, r = tn % ll := ⟨_, rfl⟩
      have hrl : r < ll := by rw [hrr]; exact Nat.mod_lt _ (by omega)
      have hql : q < ll := by rw [hq]; exact Nat.mod_lt _ (by omega)
      have hm1 : (tn : Int) % (ll : Int) = (r : Int) := by rw [hrr]; rfl
      have hm2 : ((k : Int) + (r : Int)) % (ll : Int) = (q : Int) := by rw [hq, hrr]; rfl
      rw [← hxe, ← hq] at hx
      have e0 : w.cell? ⟨b, o + q * 2, none⟩ = some (.int .u64 x.n) := hr _ x hx 0 _ rfl
      have e1 : w.cell? ⟨b, o + q * 2 + 1, none⟩ = some (.int .i64 x.p) := hr _ x hx 1 _ rfl
      have c0 := cell_later hBr e0
      have c1 := cell_later hBr e1
      have HS := Lib.hid (rot_succ l (tn % ll) k)
      rw [← hxe] at HS
      have HO := Lib.hid hown
      have HBR := Lib.hid hBr
      clear e0 e1 hx hr hll' hxe hq hrr hBr hown
      obtain ⟨xn, xp⟩ := x
      simp only at c0 c1
      go_wp2_with (at_builtin; refine wpList_append_own _ rfl _ _ 27 rfl w.heap.size 24 i0 _ 2 16 Try.underlying27 hi hz0 hz1 hz2 rfl (by decide) _ k _ rfl (HO.out.alloc _) ⟨wr.heap.size, 0, none⟩ 1 1 [.int .u64 xn, .int .i64 xp] rfl rfl ?qc2 ?qc3 ?qc4 ?qc5 ?qc6 ?_)
      case qc2 =>
        intro j u hj
        match j, hj with
        | 0, hj => simp at hj; subst hj; simp [Addr.add]
        | 1, hj => simp at hj; subst hj; simp [Addr.add]
        | j + 2, hj => simp at hj
      case qc3 => intro u hu; simp at hu; rcases hu with rfl | rfl <;> rfl
      case qc4 => unfold maxLen; omega
      case qc5 => omega
      case qc6 => have := HBR.out.size; simp; omega
      intro v' w2 hown2 hgrow hnil
      have HO2 := Lib.hid hown2
      have HG := Lib.hid hgrow
      clear hown2 hgrow hnil
      go_wp2_with fail
      go_roundw
      case rel =>
        refine ⟨k + 1, by omega, by go_num, ?_, ?_⟩
        · rw [HS.out, flat_append]
          exact HO2.out
        · refine (HBR.out.alloc HBR.out.size _).grown HG.out (by have := HBR.out.size; simp; omega) fun j hj => ?_
          exact (HO.out.lt j (by rw [hj])).1
      case measure => simp [intOf]; omega
    · have hkl : k = ll := by omega
      have HKL := Lib.hid hkl
      have HO := Lib.hid hown
      have HBR := Lib.hid hBr
      clear hown hBr hkl
      rw [HKL.out] at HO
      go_wp2_with fail
      go_loopw [8, 10] (fun s8 si w2 => ∃ (j : Nat) (z : Int), j ≤ ml ∧ z + j + 1 = ml ∧ si = .int .i64 z ∧ w2.ownsRow w.heap.size 26 2 s8 j (flat encK (m.reverse.take j)) ∧ w2.ownsRow w.heap.size 24 2 u7 ll (flat encK (rot l (tn % ll) ll)) ∧ Below w.heap.size w w2)
        (fun _ si _ => (intOf si + 1).toNat)
      case atStart => exact ⟨0, (ml : Int) - 1, Nat.zero_le _, by omega, rfl, World.ownsRow_nil _ _ _ _, HO.out, HBR.out⟩
      case round =>
        obtain ⟨j, z, hj, hz, rfl, hown, hox, hB2⟩ := hrel
        by_cases hlj : j < ml
        · obtain ⟨p, hp⟩ : ∃ p : Nat, z = p := ⟨z.toNat, by omega⟩
          subst hp
          obtain ⟨b, o, rfl, hr⟩ := HM.out.src (by omega)
          have hpl : p < m.length := by rw [HM.out.size]; omega
          have hx : m[p]? = some m[p] := List.getElem?_eq_getElem hpl
          have hrev : m.reverse.take (j + 1) = m.reverse.take j ++ [m[p]] := by
            have hjr : j < m.reverse.length := by rw [List.length_reverse, HM.out.size]; omega
            rw [List.take_succ_eq_append_getElem hjr, List.getElem_reverse]
            congr 3
            rw [HM.out.size]
            omega
          have HS := Lib.hid hrev
          have e0 : w.cell? ⟨b, o + p * 2, none⟩ = some (.int .u64 m[p].n) := hr _ _ hx 0 _ rfl
          have e1 : w.cell? ⟨b, o + p * 2 + 1, none⟩ = some (.int .i64 m[p].p) := hr _ _ hx 1 _ rfl
          have c0 := cell_later hB2 e0
          have c1 := cell_later hB2 e1
          have HO1 := Lib.hid hown
          have HZ := Lib.hid hz
          have HX := Lib.hid hox
          have HB2 := Lib.hid hB2
          have hp1 : p < ml := by omega
          clear e0 e1 hx hr hrev hB2 hown hox hz
          generalize m[p] = x at *
          obtain ⟨xn, xp⟩ := x
          simp only at c0 c1
          clear hpl
          go_wp2_with (at_builtin; refine wpList_append_own _ rfl _ _ 28 rfl w.heap.size 26 i1 _ 2 16 Try.underlying28 hi1 hz01 hz11 hz21 rfl (by decide) _ j _ rfl (HO1.out.alloc _) ⟨wr.heap.size, 0, none⟩ 1 1 [.int .u64 xn, .int .i64 xp] rfl rfl ?qc2 ?qc3 ?qc4 ?qc5 ?qc6 ?_)
          case qc2 =>
            intro j u hj
            match j, hj with
            | 0, hj => simp at hj; subst hj; simp [Addr.add]
            | 1, hj => simp at hj; subst hj; simp [Addr.add]
            | j + 2, hj => simp at hj
          case qc3 => intro u hu; simp at hu; rcases hu with rfl | rfl <;> rfl
          case qc4 => unfold maxLen; omega
          case qc5 => omega
          case qc6 => have := HB2.out.size; simp; omega
          intro v' w2 hown2 hgrow hnil
          have HO2 := Lib.hid hown2
          have HG := Lib.hid hgrow
          clear hown2 hgrow hnil
          go_wp2_with fail
          go_roundw
          case rel =>
            refine ⟨j + 1, (p : Int) - 1, by omega, ?_, rfl, ?_, ?_, ?_⟩
            · have := HZ.out
              omega
            · rw [HS.out, flat_append]
              exact HO2.out
            · exact (HX.out.alloc _).kept HG.out (own_apart HX.out HO1.out (by decide))
            · refine (HB2.out.alloc HB2.out.size _).grown HG.out (by have := HB2.out.size; simp; omega) fun j hj => ?_
              exact (HO1.out.lt j (by rw [hj])).1
          case measure => simp [intOf]
        · have hjm : j = ml := by omega
          subst hjm
          have hfull : m.reverse.take j = m.reverse := List.take_of_length_le (by rw [List.length_reverse, HM.out.size]; omega)
          rw [hfull] at hown
          obtain ⟨yo, yc, rfl⟩ := own_form hown
          obtain ⟨xo, xc, rfl⟩ := own_form hox
          have hlx : (rot l (tn % ll) ll).length = ll := rot_length _ _ _
          have LX := Lib.hid (own_lst (enc := encK) (k := 2) (fun _ => rfl) hlx hox)
          have LY := Lib.hid (own_lst (enc := encK) (k := 2) (fun _ => rfl) (by rw [List.length_reverse, HM.out.size]) hown)
          have EX := Lib.hid (show lastK (rot l (tn % ll) ll) = lastK l by
            have hs := HL.out.size
            have := lastK_rot l (tn % ll) (fun h => by rw [hs]; exact Nat.mod_lt _ (by omega))
            rw [hs] at this
            exact this)
          have EY := Lib.hid (lastK_rev m)
          have HB2 := Lib.hid hB2
          have hzn : z = -1 := by omega
          subst hzn
          have hek := eqKt
          have hec := eqCt
          clear hown hox hfull hlx hB2 hz
          go_wp2_with fail
          refine (last_any xo ll xc _ _ LX.out (by omega)).mono ?_
          rintro e w2 ⟨rfl, hB⟩
          have hB' := hB
          rw [EX.out]
          have HB3 := Lib.hid (HB2.out.trans (hB.mono HB2.out.size))
          have LY := Lib.hid (LY.out.below hB)
          clear hB HB2 hB'
          go_wp2_with fail
          refine (last_any lo ll lc l _ (HL.out.below HB3.out) (by omega)).mono ?_
          rintro e w3 ⟨rfl, hB⟩
          have HB4 := Lib.hid (HB3.out.trans (hB.mono HB3.out.size))
          have LY := Lib.hid (LY.out.below hB)
          clear hB HB3
          go_wp2_with fail
          refine (newest_any yo j yc _ _ LY.out (by omega)).mono ?_
          rintro e w4 ⟨rfl, hB⟩
          rw [EY.out]
          have HB5 := Lib.hid (HB4.out.trans (hB.mono HB4.out.size))
          clear hB HB4
          go_wp2_with fail
          refine (newest_any mo j mc m _ (HM.out.below HB5.out) (by omega)).mono ?_
          rintro e w5 ⟨rfl, hB⟩
          have HB6 := Lib.hid (HB5.out.trans (hB.mono HB5.out.size))
          clear hB HB5
          go_wp2_with fail
          go_ret
          exact ⟨rfl, HB6.out⟩
end Go.Proofs.Ytekgkeapdlgobaa
