/- The walk of 'HeardLately'. -/
import Derived.Test.YtcjbjcojmjfmaaaEarOpen
set_option linter.unusedVariables false
set_option linter.unusedSimpArgs false
namespace Go.Proofs.Ytcjbjcojmjfmaaa
open Go.RowKit Go.Sort

def otL : Nat := but (below 64) (onl 0)
theorem otL_bit : ∀ p : Nat, p < 64 → 1 ≤ p → otL.testBit p = true := by decide +kernel
structure Lat0 (T : Int) (F : Er) : Prop where
  me : F.me = 0
  timeout : F.timeout = T
  ot : F.ot = otL
/-- p was heard of c ticks ago. -/
structure Lat (T : Int) (p : Nat) (c : Int) (F : Er) : Prop where
  zero : Lat0 T F
  ever : (F.recs p).ever = true
  tick : F.clock - (F.recs p).tick = c
theorem Lat0.new (T : Int) : Lat0 T (earN 0 64 T) := ⟨rfl, rfl, rfl⟩
theorem Lat.begin {T : Int} {F : Er} (h : Lat0 T F) (p : Nat) (hp : p < 64) (hp1 : 1 ≤ p) (b : Bt) : Lat T p 0 (beatE F (p : Int) b) ∧ (beatE F (p : Int) b).clock = F.clock := by
  have hm : mem F.ot (p : Int) = true := by rw [mem_nat _ _ hp, h.ot]; exact otL_bit p hp hp1
  have e : beatE F (p : Int) b = { F with recs := upd F.recs p ⟨F.clock, true, b, true⟩ } := by unfold beatE; rw [if_pos hm]; rfl
  rw [e]
  exact ⟨⟨⟨h.me, h.timeout, h.ot⟩, by simp only [upd_same], by simp only [upd_same]; omega⟩, rfl⟩
theorem hear_clock (F : Er) (q : Int) : (hearE F q).clock = F.clock := by unfold hearE; split <;> rfl
theorem Lat.step {T : Int} {F : Er} {p : Nat} {c : Int} (h : Lat T p c F) (q : Int) (hq : (p : Int) ≠ q) (s : Nat) : Lat T p (c + 1) (forgetE (hearE (tickE F) q) s) ∧ (forgetE (hearE (tickE F) q) s).clock = F.clock + 1 := by
  have h1 : Lat T p (c + 1) (tickE F) := ⟨⟨h.zero.me, h.zero.timeout, h.zero.ot⟩, h.ever, by have := h.tick; show F.clock + 1 - _ = _; show F.clock + 1 - (F.recs p).tick = _; omega⟩
  have h2 : Lat T p (c + 1) (hearE (tickE F) q) := by
    unfold hearE
    split
    · obtain ⟨k, rfl, hk, hb⟩ := mem_bit ‹_›
      have hk' : p ≠ k := fun e => hq (by rw [e])
      refine ⟨⟨h1.zero.me, h1.zero.timeout, h1.zero.ot⟩, ?_, ?_⟩
      · simp only [Int.toNat_natCast]; rw [upd_other _ _ _ _ hk']; exact h1.ever
      · simp only [Int.toNat_natCast]; rw [upd_other _ _ _ _ hk']; exact h1.tick
    · exact h1
  have h3 : (hearE (tickE F) q).clock = F.clock + 1 := by rw [hear_clock]; rfl
  generalize hearE (tickE F) q = G at *
  refine ⟨⟨⟨h2.zero.me, h2.zero.timeout, h2.zero.ot⟩, ?_, ?_⟩, h3⟩
  · show (goneF G.recs s.testBit p).ever = true
    unfold goneF
    split
    · exact h2.ever
    · exact h2.ever
  · show G.clock - (goneF G.recs s.testBit p).tick = c + 1
    unfold goneF
    split
    · exact h2.tick
    · exact h2.tick
theorem lat_mem {T : Int} {F : Er} {p : Nat} {c : Int} (h : Lat T p c F) (hp : p < 64) (hp1 : 1 ≤ p) : mem (reachE F) (p : Int) = decide (c ≤ T) := by
  rw [mem_nat _ _ hp, reach_bit _ _ hp]
  unfold reachB
  rw [h.ever, h.tick, h.zero.timeout, h.zero.me]
  have : decide ((p : Int) = 0) = false := by simp; omega
  rw [this, Bool.false_or, Bool.true_and]
theorem lat_mem0 {T : Int} {F : Er} (h : Lat0 T F) : mem (reachE F) 0 = true := by
  rw [show (0 : Int) = ((0 : Nat) : Int) from rfl, mem_nat _ _ (by decide), reach_bit _ _ (by decide), h.me]
  rfl

/-- A slice of bytes that came in. -/
structure InO (w : World) (ao : Option Addr) (len : Nat) (l : List Nat) : Prop where
  size : l.length = len
  src : ∀ (k x : Nat), l[k]? = some x → ∃ b o, ao = some ⟨b, o, none⟩ ∧ w.cell? ⟨b, o + k, none⟩ = some (.int .u8 (x : Int))
  bd : ∀ x ∈ l, x < 256
  le : len ≤ maxLen
theorem InO.below {w w' : World} {ao : Option Addr} {len : Nat} {l : List Nat} (h : InO w ao len l) (hb : Below w.heap.size w w') : InO w' ao len l :=
  ⟨h.size, fun k x hk => let ⟨b, o, e, hc⟩ := h.src k x hk; ⟨b, o, e, cell_later hb hc⟩, h.bd, h.le⟩
section
open Go.ChangeShapes Go.WideShapes Go.ChangeAt Go.Joins Go.Deep
theorem open_often {H : Type} {enc : TypeId × Value → H} {W : World} {B : Nat} {hd : Bool} {a : Option Addr} {len cap : Nat} {d : DataW H} {p : List MemPlace}
    (h : DataW.Trod enc Try.prog W B (fun _ => true) hd 53 (.slice a len cap) d p) : ∃ l : List Nat, InO W a len l := by
  obtain ⟨fuel, hf⟩ := h
  rcases open_ints Try.underlying53 Try.underlying5 (by kernel_rfl) hf with ⟨hcs, _⟩ | ⟨x, l, c, zs, hcs, _, hl, hm, hz, _, hcell, hwz⟩
  · simp [Value.cells] at hcs
    obtain ⟨rfl, rfl, rfl⟩ := hcs
    exact ⟨[], ⟨rfl, fun k x hk => (by simp at hk), fun x hx => (by cases hx), (by decide)⟩⟩
  · simp [Value.cells] at hcs
    obtain ⟨rfl, rfl, rfl⟩ := hcs
    have hz' : zs.length = cap := by simpa using hz
    have hc : ∀ i, i < len → W.cell? (x.add i) = some (.int .u8 (zs.getD i 0)) := fun i hi => hcell i (by omega)
    have hb : ∀ i, i < len → 0 ≤ zs.getD i 0 ∧ zs.getD i 0 < 256 := fun i hi => by
      have := Go.bounds_u8 (hwz (zs.getD i 0) (by rw [List.getD_eq_getElem?_getD, List.getElem?_eq_getElem (by omega)]; simp))
      omega
    refine ⟨(List.range len).map (fun i => (zs.getD i 0).toNat), by simp, fun k y hk => ?_, fun y hy => ?_, Nat.le_trans hl hm⟩
    · have hi : k < len := by
        rcases Nat.lt_or_ge k len with h | h
        · exact h
        · rw [List.getElem?_eq_none (by simpa using h)] at hk; cases hk
      rw [List.getElem?_map, List.getElem?_range hi] at hk
      simp only [Option.map_some, Option.some.injEq] at hk
      subst hk
      have h0 := hc k hi
      obtain ⟨b, o, sp⟩ := x
      have hsp : sp = none := by simpa [Addr.add] using World.cell?_spot (hc 0 (by omega))
      subst hsp
      rw [hadd_lit] at h0
      refine ⟨b, o, rfl, ?_⟩
      rw [h0]
      have := hb k hi
      congr 2
      omega
    · obtain ⟨i, hi, rfl⟩ := List.mem_map.1 hy
      have := hb i (List.mem_range.1 hi)
      omega
end
set_option maxHeartbeats 4000000 in
theorem full_HeardLately (T p q : Int) (T0 : -9223372036854775808 ≤ T) (T1 : T ≤ 9223372036854775807) (p0 : -9223372036854775808 ≤ p) (p1 : p ≤ 9223372036854775807) (q0 : -9223372036854775808 ≤ q) (q1 : q ≤ 9223372036854775807)
    (ao : Option Addr) (len cap : Nat) (l : List Nat) (w : World) (hin : InO w ao len l) :
    Calls Try.prog 4 #[.int .i64 T, .int .i64 p, .int .i64 q, .slice ao len cap] w fun e w' => e = .returned (.bool true) ∧ Below w.heap.size w w' := by
  have hle := hin.le
  unfold maxLen at hle
  by_cases h1 : T < 0
  · clear hin
    go_enter Try.func4, Try.ntmps4
    go_wp2_with (go_at_call 7; refine (eawake _).mono ?_; rintro e w1 ⟨rfl, L1⟩)
    go_ret
    exact ⟨rfl, L1⟩
  by_cases h2 : 1000 < T
  · clear hin
    go_enter Try.func4, Try.ntmps4
    go_wp2_with (go_at_call 7; refine (eawake _).mono ?_; rintro e w1 ⟨rfl, L1⟩)
    go_ret
    exact ⟨rfl, L1⟩
  by_cases h3 : p < 1
  · clear hin
    go_enter Try.func4, Try.ntmps4
    go_wp2_with (go_at_call 7; refine (eawake _).mono ?_; rintro e w1 ⟨rfl, L1⟩)
    go_ret
    exact ⟨rfl, L1⟩
  by_cases h4 : 63 < p
  · clear hin
    go_enter Try.func4, Try.ntmps4
    go_wp2_with (go_at_call 7; refine (eawake _).mono ?_; rintro e w1 ⟨rfl, L1⟩)
    go_ret
    exact ⟨rfl, L1⟩
  by_cases h5 : p = q
  · have h5' : (p == q) = true := by simpa using h5
    clear hin h5
    go_enter Try.func4, Try.ntmps4
    go_wp2_with (go_at_call 7; refine (eawake _).mono ?_; rintro e w1 ⟨rfl, L1⟩)
    go_ret
    exact ⟨rfl, L1⟩
  have h5' : (p == q) = false := by simpa using h5
  by_cases h6 : (50 : Int) < (len : Int)
  · clear hin h5
    go_enter Try.func4, Try.ntmps4
    go_wp2_with (go_at_call 7; refine (eawake _).mono ?_; rintro e w1 ⟨rfl, L1⟩)
    go_ret
    exact ⟨rfl, L1⟩
  obtain ⟨k, rfl⟩ := Int.eq_ofNat_of_zero_le (show 0 ≤ p by omega)
  have hk : k < 64 := by omega
  have hk1 : 1 ≤ k := by omega
  have HQ := Lib.hid h5
  have HI := Lib.hid hin
  have d1 : decide (T < 0) = false := by simp; omega
  have d2 : decide (1000 < T) = false := by simp; omega
  have d3 : decide ((k : Int) < 1) = false := by simp; omega
  have d4 : decide (63 < (k : Int)) = false := by simp; omega
  have d6 : decide ((50 : Int) < (len : Int)) = false := by simp; omega
  clear hin h5
  go_enter Try.func4, Try.ntmps4
  go_wp2_with fail
  refine (eawake _).mono ?_
  rintro e w1 ⟨rfl, L1⟩
  have HNW := Lib.hid (enew 0 64 T w1 (by decide) (by decide) (by decide) (by decide) T0 T1)
  go_wp2_with fail
  refine HNW.out.mono ?_
  rintro e w2 ⟨rfl, A2, L2'⟩
  have L2 := L1.trans (L2'.mono L1.size)
  have hgw : w.heap.size ≤ w1.heap.size + 1 := by have := L1.size; omega
  have Z2 := Lat0.new T
  have hc2 : (earN 0 64 T).clock = 0 := rfl
  generalize earN 0 64 T = E2 at *
  clear HNW L1 L2'
  generalize w1.heap.size + 1 = g at *
  go_wp2
  go_loopw [10] (fun si wr => ∃ (i : Nat) (E : Er), i ≤ len ∧ si = .int .i64 i ∧ EarAt wr g E ∧ Lat0 T E ∧ E.clock ≤ 1003 * i ∧ Below w.heap.size w wr) (fun si _ => len - (intOf si).toNat)
  case atStart => exact ⟨0, E2, Nat.zero_le _, rfl, A2, Z2, by omega, L2⟩
  case round =>
    obtain ⟨i, E, hi, rfl, A, Z, hc, L⟩ := hrel
    clear A2 Z2 hc2 L2
    by_cases hlt : i < len
    · have hil : i < l.length := by rw [HI.out.size]; exact hlt
      obtain ⟨x, hx⟩ : ∃ x, l[i]? = some x := ⟨_, List.getElem?_eq_getElem hil⟩
      obtain ⟨b, o, rfl, hcell⟩ := HI.out.src i x hx
      have hx256 := HI.out.bd x (List.mem_of_getElem? hx)
      have HB := Lib.hid (show Calls Try.prog 12 #[.pointer (some ⟨g, 0, none⟩), .int .i64 (k : Int), .agg #[.int .u64 0, .int .i64 0, .int .u64 0, .int .i64 0, .int .u64 5]] wr fun e w' => e = .returned (.tuple #[]) ∧ Eared wr w' g (beatE E (k : Int) ⟨0, 0, 0, 0, 5⟩) from ebeat A (k : Int) (by omega) (by omega) ⟨0, 0, 0, 0, 5⟩ ⟨by decide, by decide, by decide, by decide, by decide, by decide, by decide⟩)
      have c0 := cell_later L hcell
      obtain ⟨Y, hY⟩ := Lat.begin Z k hk hk1 ⟨0, 0, 0, 0, 5⟩
      generalize beatE E (k : Int) ⟨0, 0, 0, 0, 5⟩ = F at *
      have hbl : b < w.heap.size := World.block_lt_of_cell? _ _ hcell
      have hcF : F.clock ≤ 1003 * i := by rw [hY]; exact hc
      clear A Z hc hY hx hil hcell
      go_wp2_with fail
      refine HB.out.mono ?_
      rintro e w3 ⟨rfl, A3⟩
      have c1 : w3.cell? ⟨b, o + i, none⟩ = some (.int .u8 (x : Int)) := by
        rw [← c0]
        exact World.cell?_of_block (A3.gr.block b (by have := L.size; omega) (by intro e; cases e; omega))
      have L3 := Eared.later L A3 (by omega)
      have A3 := A3.at_
      obtain ⟨m, hm⟩ : ∃ m : Nat, (x : Int) % (T + 3) = (m : Int) := Int.eq_ofNat_of_zero_le (Int.emod_nonneg _ (by omega))
      have hm2 : (m : Int) < T + 3 := by rw [← hm]; exact Int.emod_lt_of_pos _ (by omega)
      clear HB c0 L
      go_wp2
      rw [hm]
      clear hm
      go_loopw [12] (fun sj wr => ∃ (j : Nat) (G : Er), j ≤ m ∧ sj = .int .i64 j ∧ EarAt wr g G ∧ Lat T k j G ∧ G.clock ≤ 1003 * i + j ∧ Below w.heap.size w wr) (fun sj _ => m - (intOf sj).toNat)
      case atStart => exact ⟨0, F, Nat.zero_le _, rfl, A3, Y, by omega, L3⟩
      case round =>
        obtain ⟨j, G, hj, rfl, A, Z, hcG, L⟩ := hrel
        clear A3 Y hcF L3 c1
        by_cases hjm : j < m
        · have R1 := ereach A
          have M0 := lat_mem0 Z.zero
          have M1 := lat_mem Z hk hk1
          have hot := reachE_lt G
          have HA := Lib.hid A
          have hcG2 : G.clock ≤ 1000000 := by omega
          generalize hr : reachE G = r at *
          have R1 := Lib.hid R1
          clear A
          have HR : Hid (∀ w', EarAt w' g G → Calls Try.prog 16 #[.pointer (some ⟨g, 0, none⟩)] w' fun e w'' => e = .returned (.int .u64 (r : Int)) ∧ Below w'.heap.size w' w'') := Lib.hid (fun w' h => by rw [← hr]; exact ereach h)
          clear hr
          go_wp2_with fail
          refine R1.out.mono ?_
          rintro e w4 ⟨rfl, B4⟩
          have A4 := HA.out.below B4
          have L4 := L.trans (B4.mono L.size)
          have H0 := has_any r 0 w4 hot (by decide) (by decide)
          rw [M0] at H0
          have R2 := HR.out w4 A4
          clear R1 HA B4 L M0 HR
          go_wp2_with fail
          refine H0.mono ?_
          rintro e w' ⟨rfl, rfl⟩
          go_wp2_with fail
          refine R2.mono ?_
          rintro e w5 ⟨rfl, B5⟩
          have A5 := A4.below B5
          have L5 := L4.trans (B5.mono L4.size)
          have H1 := has_any r (k : Int) w5 hot (by omega) (by omega)
          rw [M1] at H1
          have HT := etick A5 hcG2
          obtain ⟨S1, S2⟩ := Z.step q HQ.out (onl (k : Int))
          have HZ := Lib.hid S1
          have hcl : (forgetE (hearE (tickE G) q) (onl (k : Int))).clock ≤ 1003 * i + (j + 1 : Nat) := by rw [S2]; omega
          have HCL := Lib.hid hcl
          clear R2 A4 B5 L4 M1 H0 A5 Z S1 S2 hcl
          cases hd : decide ((j : Int) ≤ T)
          all_goals
            rw [hd] at H1
            go_wp2_with fail
            refine H1.mono ?_
            rintro e w' ⟨rfl, rfl⟩
            go_wp2_with fail
            refine HT.mono ?_
            rintro e w6 ⟨rfl, A6⟩
            have L6 := Eared.later L5 A6 hgw
            have HH := ehear A6.at_ q q0 q1
            clear H1 HT A6
            go_wp2_with fail
            refine HH.mono ?_
            rintro e w7 ⟨rfl, A7⟩
            have L7 := Eared.later L6 A7 hgw
            have B8 := ((Grw.refl w7).alloc (.cells #[.int .i64 (k : Int)] 3)).below
            have A8 := A7.at_.below B8
            have L8 := L7.trans (B8.mono L7.size)
            have HO := of_any (some ⟨w7.heap.size, 0, none⟩) 1 1 [(k : Int)] _ (InI.one w7 (k : Int) (by omega) (by omega)) (by decide)
            rw [ofl_one] at HO
            have HF := eforget A8 (onl (k : Int)) (onl_lt _)
            clear HH A7 B8 L6 A8 L7
            go_wp2_with fail
            refine HO.mono ?_
            rintro e w' ⟨rfl, rfl⟩
            go_wp2_with fail
            refine HF.mono ?_
            rintro e w9 ⟨rfl, A9⟩
            have L9 := Lib.hid (Eared.later L8 A9 hgw)
            have HA9 := Lib.hid A9.at_
            clear HO HF A9 L8 hd
            go_wp2
            go_roundw
            case rel => exact ⟨j + 1, _, by omega, by go_num, HA9.out, by rw [show (((j + 1 : Nat)) : Int) = (j : Int) + 1 by omega]; exact HZ.out, HCL.out, L9.out⟩
            case measure => simp [intOf]; omega
        · have hjm : j = m := by omega
          have HA := Lib.hid A
          have HZ := Lib.hid Z.zero
          have HL := Lib.hid L
          have hcl : Hid (G.clock ≤ 1003 * ((i + 1 : Nat) : Int)) := Lib.hid (by omega)
          clear A Z L hjm
          go_wp2
          go_roundw
          case rel => exact ⟨i + 1, G, by omega, by go_num, HA.out, HZ.out, hcl.out, HL.out⟩
          case measure => simp [intOf]; omega
    · have HL := Lib.hid L
      clear L A Z
      go_wp2
      go_ret
      exact ⟨rfl, HL.out⟩
theorem walk_HeardLately {w : World} (T : Int) (wT : (Lit.int .i64 T).wf = true) (p : Int) (wp' : (Lit.int .i64 p).wf = true) (q : Int) (wq : (Lit.int .i64 q).wf = true) (ao : Option Addr) (len cap : Nat) (l : List Nat) (hl : InO w ao len l) :
    Calls Try.prog 4 #[.int .i64 T, .int .i64 p, .int .i64 q, .slice ao len cap] w fun e w' => e = .returned (.bool true) ∧ Below w.heap.size w w' := by
  have b0 := Go.bounds_i64 wT
  have b1 := Go.bounds_i64 wp'
  have b2 := Go.bounds_i64 wq
  exact full_HeardLately T p q (by omega) (by omega) (by omega) (by omega) (by omega) (by omega) ao len cap l w hl
end Go.Proofs.Ytcjbjcojmjfmaaa
