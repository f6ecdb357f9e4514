/- The document's window: New. (Written by wip/gen_refnew11.py.) -/
import Derived.Test.YtlmajpckgjnbdaaRefNext
set_option linter.unusedVariables false
set_option linter.unusedSimpArgs false
namespace Go.Proofs.Ytlmajpckgjnbdaa
open Go.RowKit Go.Sort

theorem build_rw (me z : Int) (w : World) : (Instr.build 32 #[(0, .int .i64 me), (1, .int .i64 z)]).run Try.prog w = .ok (.agg (rC me z (fun _ => false) 0 (fun _ => 0)).toArray) w := by kernel_rfl
theorem step_build2 {ops : Array Oper} {rest : List Oper} {o : Oper} {a : Act} {w : World} {Q : Exit → Act → World → Prop} (hgd : o.guard = none) (ty : TypeId) (x y : Operand) (ho : o.op = .build ty #[(0, x), (1, y)])
    (vx vy v : Value) (hx : a.eval x = vx) (hy : a.eval y = vy) (hb : (Instr.build ty #[(0, vx), (1, vy)]).run Try.prog w = .ok v w)
    (h : wpList Try.prog ops Q rest (a.put o.dst v) w) : wpList Try.prog ops Q (o :: rest) a w :=
  wpList_plain hgd fun _ hK => by
    unfold Oper.wp execOp
    simp only [ho, List.map_toArray, List.map_cons, List.map_nil, hx, hy, Sem.run_bind, Sem.run_pure, Result.andThen_ok, hb]
    exact hK _ _ h
/-- A window in the making. -/
def NwB (w : World) (g : Nat) (me z : Int) (o : Nat → Bool) : Prop := Own w g 32 (rC me z o 0 (fun _ => 0)).toArray
theorem NwB.own {w : World} {g : Nat} {me z : Int} {o : Nat → Bool} (h : NwB w g me z o) : Own w g 32 (rC me z o 0 (fun _ => 0)).toArray := h
theorem NwB.lt {w : World} {g : Nat} {me z : Int} {o : Nat → Bool} (h : NwB w g me z o) : g < w.heap.size := h.own.lt
theorem NwB.c1 {w : World} {g : Nat} {me z : Int} {o : Nat → Bool} (h : NwB w g me z o) : w.cell? ⟨g, 1, none⟩ = some (.int .i64 z) := h.own.at_ 1 _ rfl
theorem NwB.co {w : World} {g : Nat} {me z : Int} {o : Nat → Bool} (h : NwB w g me z o) (p : Nat) (hp : p < 64) : w.cell? ⟨g, 2 + p, none⟩ = some (.bool (o p)) :=
  h.own.at_ _ _ (by rw [List.getElem?_toArray]; exact rC_o _ _ _ _ _ _ hp)
theorem NwB.free {w : World} {g : Nat} {me z : Int} {o : Nat → Bool} (h : NwB w g me z o) (j : Nat) : w.frozen? ⟨g, j, none⟩ = false := h.own.free j
theorem NwB.sized {w : World} {g : Nat} {me z : Int} {o : Nat → Bool} (h : NwB w g me z o) (z' : Int) : NwB (w.setCell ⟨g, 1, none⟩ (.int .i64 z')) g me z' o := h.own.set 1 _
theorem NwB.put {w : World} {g : Nat} {me z : Int} {o o' : Nat → Bool} (h : NwB w g me z o) (p : Nat) (b : Bool) (hp : p < 64) (he : ∀ q, q < 64 → (if q = p then b else o q) = o' q) : NwB (w.setCell ⟨g, 2 + p, none⟩ (.bool b)) g me z o' := by
  have := h.own.set (2 + p) (.bool b)
  rw [rC_set_o _ _ _ _ _ _ _ hp] at this
  unfold NwB
  rw [show rC me z o' 0 (fun _ => 0) = rC me z (fun q => if q = p then b else o q) 0 (fun _ => 0) by unfold rC; rw [rowT11_ext _ _ he]]
  exact this
theorem NwB.whole {w : World} {g : Nat} {me z : Int} {o : Nat → Bool} (h : NwB w g me z o) (s : Nat) (size : Int) (hz : z = ((sizeN size : Nat) : Int)) (ho : ∀ p, p < 64 → o p = (s.testBit p && !decide ((p : Int) = me))) : RwB w g (newN me s size) := by
  have := h.own
  unfold RwB rW
  rw [show rC (newN me s size).me ((newN me s size).size : Int) (newN me s size).oth.testBit (newN me s size).sent (newN me s size).got = rC me z o 0 (fun _ => 0) by
    show rC me ((sizeN size : Nat) : Int) (othersN s me).testBit 0 (fun _ => 0) = _
    rw [← hz]
    unfold rC
    rw [rowT11_ext _ o (fun p hp => by rw [othersN_bit _ _ _ hp, ho p hp])]]
  exact this
theorem and_bit11 (s k : Nat) (hs : s < 18446744073709551616) : bits .and .u64 ((s : Int) / 2 ^ k) 1 = (if s.testBit k = true then 1 else 0 : Int) := by
  have e1 : ((s : Int) / 2 ^ k) = ((s / 2 ^ k : Nat) : Int) := by rw [Int.natCast_ediv, Int.natCast_pow]; rfl
  rw [e1, show (1 : Int) = ((1 : Nat) : Int) from rfl, bits_and_u64_nat _ 1 (Nat.lt_of_le_of_lt (Nat.div_le_self _ _) hs) (by decide), Nat.and_one_is_mod, Nat.testBit_eq_decide_div_mod_eq]
  by_cases h : s / 2 ^ k % 2 = 1
  · rw [h]; simp
  · rw [show s / 2 ^ k % 2 = 0 by omega]; simp
set_option maxHeartbeats 8000000 in
set_option maxRecDepth 100000 in
theorem rnew11 (me size : Int) (s : Nat) (w : World) (hs : s < 18446744073709551616) (m0 : -9223372036854775808 ≤ me) (m1 : me ≤ 9223372036854775807) (n0 : -9223372036854775808 ≤ size) (n1 : size ≤ 9223372036854775807) :
    Calls Try.prog 9 #[.int .i64 me, .int .u64 (s : Int), .int .i64 size] w fun e w' => e = .returned (.agg (rW (newN me s size))) ∧ Below w.heap.size w w' := by
  have hz := Lib.hid zRow_run
  have hzs := Lib.hid zRow_size
  have hbw := Lib.hid (build_rw me size)
  obtain ⟨g, hg⟩ : ∃ g, g = w.heap.size + 1 := ⟨_, rfl⟩
  have hgs : (w.alloc (.cells zRow 32)).heap.size = g := by rw [hg]; simp
  have Z0 : Own ((w.alloc (.cells zRow 32)).alloc (.cells zRow 32)) g 32 zRow := by rw [← hgs]; exact Own.new _ _ _
  have R0 : Own ((w.alloc (.cells zRow 32)).alloc (.cells zRow 32)) w.heap.size 32 zRow :=
    (Own.new w 32 zRow).below ((Grw.refl _).alloc _).below (by simp)
  have L0 : Below w.heap.size w ((w.alloc (.cells zRow 32)).alloc (.cells zRow 32)) := (((Grw.refl w).alloc _).alloc _).below
  have N1 : NwB (((w.alloc (.cells zRow 32)).alloc (.cells zRow 32)).setRow g (rC me size (fun _ => false) 0 (fun _ => 0)).toArray) g me size (fun _ => false) := setRow_heap _ _ _ _ _ _ Z0
  have R1 : Own (((w.alloc (.cells zRow 32)).alloc (.cells zRow 32)).setRow g (rC me size (fun _ => false) 0 (fun _ => 0)).toArray) w.heap.size 32 zRow := (setRow_other _ _ _ _ (by omega)).trans R0
  have L1 : Below w.heap.size w (((w.alloc (.cells zRow 32)).alloc (.cells zRow 32)).setRow g (rC me size (fun _ => false) 0 (fun _ => 0)).toArray) := lbelowRow L0 g (by omega) _
  have hrl := Lib.hid (rC_length me size (fun _ => false) 0 (fun _ => 0))
  have hro := Lib.hid (rC_one me size (fun _ => false) 0 (fun _ => 0))
  have Z0 := Lib.hid Z0
  have hg1 : w.heap.size ≤ g := by omega
  have hgn : w.heap.size ≠ g := by omega
  replace hg := Lib.hid hg
  have HNW := Lib.hid N1
  have HR1 := Lib.hid R1
  have HL1 := Lib.hid L1
  clear N1 R1 L1 R0 L0
  have HSB := Lib.hid (fun k => and_bit11 s k hs)
  go_enter Try.func9, Try.ntmps9
  go_upto_region 1 with (with_reducible refine step_alloc rfl 32 rfl zRow (hz.out _) ?_)
  go_upto_region 2 with (first | (with_reducible refine step_build2 rfl 32 (.tmp 9) (.tmp 10) rfl (.int .i64 me) (.int .i64 size) (.agg (rC me size (fun _ => false) 0 (fun _ => 0)).toArray) rfl rfl (hbw.out _) ?_) | (with_reducible refine step_alloc rfl 32 rfl zRow (hz.out _) ?_; rw [hgs]) | (refine wpList_store_row rfl 32 (.tmp 7) (.tmp 11) rfl g _ rfl rfl 32 zRow Z0.out (by rw [List.size_toArray, hrl.out]; exact rw_size) (by rw [hzs.out, List.size_toArray, hrl.out]) hro.out ?_))
  generalize ((w.alloc (.cells zRow 32)).alloc (.cells zRow 32)).setRow g (rC me size (fun _ => false) 0 (fun _ => 0)).toArray = V at *
  simp only [Act.put, List.setIfInBounds_toArray, List.set_cons_zero, List.set_cons_succ]
  clear hrl hro Z0 hgs hbw
  generalize (rC me size (fun _ => false) 0 (fun _ => 0)).toArray = C at *
  have HNW' := HNW.out
  have c1 := HNW'.c1
  have f1 := HNW'.free 1
  by_cases z1 : size < 1
  · have dz : decide (size < 1) = true := by simp [z1]
    have dz2 : decide (64 < size) = false := by simp; omega
    have hzn := Lib.hid (show (1 : Int) = ((sizeN size : Nat) : Int) by rw [sizeN_low z1]; rfl)
    have HN := Lib.hid (HNW'.sized 1)
    have HR := Lib.hid (HR1.out.set_other g 1 (.int .i64 1) hgn)
    have HL := Lib.hid (Go.RowKit.Below.setCell HL1.out (show w.heap.size ≤ (⟨g, 1, none⟩ : Addr).block from hg1) (.int .i64 1))
    clear HNW' z1 HNW HR1 HL1
    go_upto_region 6 with fail
    generalize V.setCell ⟨g, 1, none⟩ (.int .i64 1) = V2 at *
    have hsb := fun k => HSB.out k
    go_wp2
    go_loopw [8] (fun si wr => ∃ k : Nat, k ≤ 64 ∧ si = .int .i64 k ∧ NwB wr g me 1 (fun p => decide (p < k) && (s.testBit p && !decide ((p : Int) = me))) ∧ Own wr w.heap.size 32 zRow ∧ Below w.heap.size w wr) (fun si _ => 64 - (intOf si).toNat)
    case atStart => exact ⟨0, Nat.zero_le _, rfl, by rw [show (fun p => decide (p < 0) && (s.testBit p && !decide ((p : Int) = me))) = (fun _ => false) by funext p; simp]; exact HN.out, HR.out, HL.out⟩
    case round =>
      obtain ⟨k, hk, rfl, N, R, L⟩ := hrel
      by_cases hlt : k < 64
      · have hc := N.co k hlt
        have hf := N.free (2 + k)
        have hb1 := HSB.out k
        have hki : (k : Int) < 64 := by omega
        have HP : ∀ b, b = (s.testBit k && !decide ((k : Int) = me)) → NwB (wr.setCell ⟨g, 2 + k, none⟩ (.bool b)) g me 1 (fun p => decide (p < k + 1) && (s.testBit p && !decide ((p : Int) = me))) := fun b hb => N.put k b hlt (fun q hq => by
          by_cases e : q = k
          · subst e; rw [if_pos rfl, hb]; simp
          · rw [if_neg e]; congr 1; exact decide_eq_decide.2 (by omega))
        have HRR := fun b => R.set_other g (2 + k) (.bool b) hgn
        have HLL := fun (b : Bool) => Go.RowKit.Below.setCell L (show w.heap.size ≤ (⟨g, 2 + k, none⟩ : Addr).block from hg1) (.bool b)
        replace HP := Lib.hid HP
        replace HRR := Lib.hid HRR
        replace HLL := Lib.hid HLL
        clear N R L hsb
        cases hb : s.testBit k with
        | false =>
          rw [hb, if_neg (by decide)] at hb1
          have HPP := Lib.hid (HP.out false (by rw [hb]; rfl))
          clear hb HP
          go_wp2
          go_roundw
          case rel => exact ⟨k + 1, by omega, by go_num, HPP.out, HRR.out _, HLL.out _⟩
          case measure => simp [intOf]; omega
        | true =>
          rw [hb, if_pos rfl] at hb1
          by_cases hm : (k : Int) = me
          · have HPP := Lib.hid (HP.out false (by rw [hb, decide_eq_true hm]; rfl))
            have hm' : ((k : Int) == me) = true := by simpa using hm
            have hm2 : ((k : Int) != me) = false := by simpa using hm
            clear hb HP hm
            go_wp2
            go_roundw
            case rel => exact ⟨k + 1, by omega, by go_num, HPP.out, HRR.out _, HLL.out _⟩
            case measure => simp [intOf]; omega
          · have HPP := Lib.hid (HP.out true (by rw [hb, decide_eq_false hm]; rfl))
            have hm' : ((k : Int) == me) = false := by simpa using hm
            have hm2 : ((k : Int) != me) = true := by simpa using hm
            clear hb HP hm
            go_wp2
            go_roundw
            case rel => exact ⟨k + 1, by omega, by go_num, HPP.out, HRR.out _, HLL.out _⟩
            case measure => simp [intOf]; omega
      · obtain rfl : k = 64 := by omega
        have HW := Lib.hid (N.whole s size hzn.out (fun p hp => by rw [decide_eq_true hp]; rfl))
        replace R := Lib.hid R
        replace L := Lib.hid L
        clear N hsb
        go_wp2_with (first | (refine load_rw rfl (.tmp 7) rfl g (newN me s size) rfl HW.out ?_) | (refine store_rw rfl (.tmp 6) (.tmp 35) rfl w.heap.size (newN me s size) rfl rfl R.out hzs.out ?_))
        (try simp only [Exit.inBlock, Exit.then])
        refine bodyPost_ret (results_rw rfl _ _ w.heap.size (newN me s size) rfl (setRow_rw R.out _)) rfl ?_
        exact ⟨rfl, lbelowRow L.out _ (Nat.le_refl _) _⟩
  · have dz : decide (size < 1) = false := by simp; omega
    by_cases z2 : 64 < size
    · have dz2 : decide (64 < size) = true := by simp [z2]
      have hzn := Lib.hid (show (64 : Int) = ((sizeN size : Nat) : Int) by rw [sizeN_high z2]; rfl)
      have HN := Lib.hid (HNW'.sized 64)
      have HR := Lib.hid (HR1.out.set_other g 1 (.int .i64 64) hgn)
      have HL := Lib.hid (Go.RowKit.Below.setCell HL1.out (show w.heap.size ≤ (⟨g, 1, none⟩ : Addr).block from hg1) (.int .i64 64))
      clear HNW' z2 HNW HR1 HL1
      go_upto_region 6 with fail
      generalize V.setCell ⟨g, 1, none⟩ (.int .i64 64) = V2 at *
      have hsb := fun k => HSB.out k
      go_wp2
      go_loopw [8] (fun si wr => ∃ k : Nat, k ≤ 64 ∧ si = .int .i64 k ∧ NwB wr g me 64 (fun p => decide (p < k) && (s.testBit p && !decide ((p : Int) = me))) ∧ Own wr w.heap.size 32 zRow ∧ Below w.heap.size w wr) (fun si _ => 64 - (intOf si).toNat)
      case atStart => exact ⟨0, Nat.zero_le _, rfl, by rw [show (fun p => decide (p < 0) && (s.testBit p && !decide ((p : Int) = me))) = (fun _ => false) by funext p; simp]; exact HN.out, HR.out, HL.out⟩
      case round =>
        obtain ⟨k, hk, rfl, N, R, L⟩ := hrel
        by_cases hlt : k < 64
        · have hc := N.co k hlt
          have hf := N.free (2 + k)
          have hb1 := HSB.out k
          have hki : (k : Int) < 64 := by omega
          have HP : ∀ b, b = (s.testBit k && !decide ((k : Int) = me)) → NwB (wr.setCell ⟨g, 2 + k, none⟩ (.bool b)) g me 64 (fun p => decide (p < k + 1) && (s.testBit p && !decide ((p : Int) = me))) := fun b hb => N.put k b hlt (fun q hq => by
            by_cases e : q = k
            · subst e; rw [if_pos rfl, hb]; simp
            · rw [if_neg e]; congr 1; exact decide_eq_decide.2 (by omega))
          have HRR := fun b => R.set_other g (2 + k) (.bool b) hgn
          have HLL := fun (b : Bool) => Go.RowKit.Below.setCell L (show w.heap.size ≤ (⟨g, 2 + k, none⟩ : Addr).block from hg1) (.bool b)
          replace HP := Lib.hid HP
          replace HRR := Lib.hid HRR
          replace HLL := Lib.hid HLL
          clear N R L hsb
          cases hb : s.testBit k with
          | false =>
            rw [hb, if_neg (by decide)] at hb1
            have HPP := Lib.hid (HP.out false (by rw [hb]; rfl))
            clear hb HP
            go_wp2
            go_roundw
            case rel => exact ⟨k + 1, by omega, by go_num, HPP.out, HRR.out _, HLL.out _⟩
            case measure => simp [intOf]; omega
          | true =>
            rw [hb, if_pos rfl] at hb1
            by_cases hm : (k : Int) = me
            · have HPP := Lib.hid (HP.out false (by rw [hb, decide_eq_true hm]; rfl))
              have hm' : ((k : Int) == me) = true := by simpa using hm
              have hm2 : ((k : Int) != me) = false := by simpa using hm
              clear hb HP hm
              go_wp2
              go_roundw
              case rel => exact ⟨k + 1, by omega, by go_num, HPP.out, HRR.out _, HLL.out _⟩
              case measure => simp [intOf]; omega
            · have HPP := Lib.hid (HP.out true (by rw [hb, decide_eq_false hm]; rfl))
              have hm' : ((k : Int) == me) = false := by simpa using hm
              have hm2 : ((k : Int) != me) = true := by simpa using hm
              clear hb HP hm
              go_wp2
              go_roundw
              case rel => exact ⟨k + 1, by omega, by go_num, HPP.out, HRR.out _, HLL.out _⟩
              case measure => simp [intOf]; omega
        · obtain rfl : k = 64 := by omega
          have HW := Lib.hid (N.whole s size hzn.out (fun p hp => by rw [decide_eq_true hp]; rfl))
          replace R := Lib.hid R
          replace L := Lib.hid L
          clear N hsb
          go_wp2_with (first | (refine load_rw rfl (.tmp 7) rfl g (newN me s size) rfl HW.out ?_) | (refine store_rw rfl (.tmp 6) (.tmp 35) rfl w.heap.size (newN me s size) rfl rfl R.out hzs.out ?_))
          (try simp only [Exit.inBlock, Exit.then])
          refine bodyPost_ret (results_rw rfl _ _ w.heap.size (newN me s size) rfl (setRow_rw R.out _)) rfl ?_
          exact ⟨rfl, lbelowRow L.out _ (Nat.le_refl _) _⟩
    · have dz2 : decide (64 < size) = false := by simp; omega
      have hzn := Lib.hid (show size = ((sizeN size : Nat) : Int) by rw [sizeN_mid (by omega) (by omega)])
      have HN := Lib.hid HNW'
      have HR := HR1
      have HL := HL1
      clear HNW' z2 HNW HR1 HL1 c1 f1
      go_upto_region 6 with fail
      have hsb := fun k => HSB.out k
      go_wp2
      go_loopw [8] (fun si wr => ∃ k : Nat, k ≤ 64 ∧ si = .int .i64 k ∧ NwB wr g me size (fun p => decide (p < k) && (s.testBit p && !decide ((p : Int) = me))) ∧ Own wr w.heap.size 32 zRow ∧ Below w.heap.size w wr) (fun si _ => 64 - (intOf si).toNat)
      case atStart => exact ⟨0, Nat.zero_le _, rfl, by rw [show (fun p => decide (p < 0) && (s.testBit p && !decide ((p : Int) = me))) = (fun _ => false) by funext p; simp]; exact HN.out, HR.out, HL.out⟩
      case round =>
        obtain ⟨k, hk, rfl, N, R, L⟩ := hrel
        by_cases hlt : k < 64
        · have hc := N.co k hlt
          have hf := N.free (2 + k)
          have hb1 := HSB.out k
          have hki : (k : Int) < 64 := by omega
          have HP : ∀ b, b = (s.testBit k && !decide ((k : Int) = me)) → NwB (wr.setCell ⟨g, 2 + k, none⟩ (.bool b)) g me size (fun p => decide (p < k + 1) && (s.testBit p && !decide ((p : Int) = me))) := fun b hb => N.put k b hlt (fun q hq => by
            by_cases e : q = k
            · subst e; rw [if_pos rfl, hb]; simp
            · rw [if_neg e]; congr 1; exact decide_eq_decide.2 (by omega))
          have HRR := fun b => R.set_other g (2 + k) (.bool b) hgn
          have HLL := fun (b : Bool) => Go.RowKit.Below.setCell L (show w.heap.size ≤ (⟨g, 2 + k, none⟩ : Addr).block from hg1) (.bool b)
          replace HP := Lib.hid HP
          replace HRR := Lib.hid HRR
          replace HLL := Lib.hid HLL
          clear N R L hsb
          cases hb : s.testBit k with
          | false =>
            rw [hb, if_neg (by decide)] at hb1
            have HPP := Lib.hid (HP.out false (by rw [hb]; rfl))
            clear hb HP
            go_wp2
            go_roundw
            case rel => exact ⟨k + 1, by omega, by go_num, HPP.out, HRR.out _, HLL.out _⟩
            case measure => simp [intOf]; omega
          | true =>
            rw [hb, if_pos rfl] at hb1
            by_cases hm : (k : Int) = me
            · have HPP := Lib.hid (HP.out false (by rw [hb, decide_eq_true hm]; rfl))
              have hm' : ((k : Int) == me) = true := by simpa using hm
              have hm2 : ((k : Int) != me) = false := by simpa using hm
              clear hb HP hm
              go_wp2
              go_roundw
              case rel => exact ⟨k + 1, by omega, by go_num, HPP.out, HRR.out _, HLL.out _⟩
              case measure => simp [intOf]; omega
            · have HPP := Lib.hid (HP.out true (by rw [hb, decide_eq_false hm]; rfl))
              have hm' : ((k : Int) == me) = false := by simpa using hm
              have hm2 : ((k : Int) != me) = true := by simpa using hm
              clear hb HP hm
              go_wp2
              go_roundw
              case rel => exact ⟨k + 1, by omega, by go_num, HPP.out, HRR.out _, HLL.out _⟩
              case measure => simp [intOf]; omega
        · obtain rfl : k = 64 := by omega
          have HW := Lib.hid (N.whole s size hzn.out (fun p hp => by rw [decide_eq_true hp]; rfl))
          replace R := Lib.hid R
          replace L := Lib.hid L
          clear N hsb
          go_wp2_with (first | (refine load_rw rfl (.tmp 7) rfl g (newN me s size) rfl HW.out ?_) | (refine store_rw rfl (.tmp 6) (.tmp 35) rfl w.heap.size (newN me s size) rfl rfl R.out hzs.out ?_))
          (try simp only [Exit.inBlock, Exit.then])
          refine bodyPost_ret (results_rw rfl _ _ w.heap.size (newN me s size) rfl (setRow_rw R.out _)) rfl ?_
          exact ⟨rfl, lbelowRow L.out _ (Nat.le_refl _) _⟩
end Go.Proofs.Ytlmajpckgjnbdaa
