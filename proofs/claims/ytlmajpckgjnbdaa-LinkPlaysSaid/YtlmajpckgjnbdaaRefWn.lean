/- The document's window in memory: a block of 131 cells; Low, Of. -/
import Derived.Test.YtlmajpckgjnbdaaLinkDo
import Derived.Test.YtlmajpckgjnbdaaBel
set_option linter.unusedVariables false
set_option linter.unusedSimpArgs false
namespace Go.Proofs.Ytlmajpckgjnbdaa
open Go.RowKit Go.Sort

def rowT11 (o : Nat → Bool) : List Value := (List.range 64).map fun p => Value.bool (o p)
theorem rowT11_length (o : Nat → Bool) : (rowT11 o).length = 64 := by simp [rowT11]
theorem rowT11_at (o : Nat → Bool) (p : Nat) (hp : p < 64) : (rowT11 o)[p]? = some (.bool (o p)) := by
  unfold rowT11; rw [List.getElem?_map, List.getElem?_range hp]; rfl
theorem rowT11_ext (o o' : Nat → Bool) (h : ∀ p, p < 64 → o p = o' p) : rowT11 o = rowT11 o' := by
  unfold rowT11
  apply List.map_congr_left
  intro i hi
  rw [h i (by simpa using hi)]
theorem rowT11_set (o : Nat → Bool) (p : Nat) (b : Bool) (hp : p < 64) : (rowT11 o).set p (.bool b) = rowT11 (fun q => if q = p then b else o q) := by
  apply List.ext_getElem?
  intro i
  rw [List.getElem?_set]
  by_cases hi : i < 64
  · rw [rowT11_at _ i hi, rowT11_at _ i hi]
    by_cases e : p = i
    · subst e; rw [if_pos rfl, if_pos (by rw [rowT11_length]; exact hp), if_pos rfl]
    · rw [if_neg e, if_neg (fun h => e h.symm)]
  · rw [if_neg (by omega), List.getElem?_eq_none (by rw [rowT11_length]; omega), List.getElem?_eq_none (by rw [rowT11_length]; omega)]
def rC (me z : Int) (o : Nat → Bool) (s : Nat) (f : Nat → Nat) : List Value := .int .i64 me :: .int .i64 z :: (rowT11 o ++ (.int .u32 (s : Int) :: rowG f))
theorem rC_length (me z : Int) (o : Nat → Bool) (s : Nat) (f : Nat → Nat) : (rC me z o s f).length = 131 := by
  unfold rC; simp [rowT11_length, rowG_length]
theorem rC_o (me z : Int) (o : Nat → Bool) (s : Nat) (f : Nat → Nat) (p : Nat) (hp : p < 64) : (rC me z o s f)[2 + p]? = some (.bool (o p)) := by
  unfold rC
  rw [show 2 + p = p + 1 + 1 by omega, List.getElem?_cons_succ, List.getElem?_cons_succ, List.getElem?_append_left (by rw [rowT11_length]; exact hp), rowT11_at _ _ hp]
theorem rC_s (me z : Int) (o : Nat → Bool) (s : Nat) (f : Nat → Nat) : (rC me z o s f)[66]? = some (.int .u32 (s : Int)) := by
  unfold rC
  rw [show 66 = 64 + 1 + 1 by omega, List.getElem?_cons_succ, List.getElem?_cons_succ, List.getElem?_append_right (by rw [rowT11_length]; exact Nat.le_refl _), rowT11_length]
  rfl
theorem rC_f (me z : Int) (o : Nat → Bool) (s : Nat) (f : Nat → Nat) (p : Nat) (hp : p < 64) : (rC me z o s f)[67 + p]? = some (.int .u32 (f p : Int)) := by
  unfold rC
  rw [show 67 + p = (65 + p) + 1 + 1 by omega, List.getElem?_cons_succ, List.getElem?_cons_succ, List.getElem?_append_right (by rw [rowT11_length]; omega), rowT11_length, show 65 + p - 64 = p + 1 by omega, List.getElem?_cons_succ, rowG_at _ _ hp]
theorem rC_set_o (me z : Int) (o : Nat → Bool) (s : Nat) (f : Nat → Nat) (p : Nat) (b : Bool) (hp : p < 64) : (rC me z o s f).toArray.setIfInBounds (2 + p) (.bool b) = (rC me z (fun q => if q = p then b else o q) s f).toArray := by
  rw [List.setIfInBounds_toArray]
  congr 1
  unfold rC
  rw [show 2 + p = p + 1 + 1 by omega, List.set_cons_succ, List.set_cons_succ, List.set_append_left _ _ (by rw [rowT11_length]; exact hp), rowT11_set _ _ _ hp]
theorem rC_set_s (me z : Int) (o : Nat → Bool) (s : Nat) (f : Nat → Nat) (n : Nat) : (rC me z o s f).toArray.setIfInBounds 66 (.int .u32 (n : Int)) = (rC me z o n f).toArray := by
  rw [List.setIfInBounds_toArray]
  congr 1
theorem rC_set_f (me z : Int) (o : Nat → Bool) (s : Nat) (f : Nat → Nat) (p n : Nat) (hp : p < 64) : (rC me z o s f).toArray.setIfInBounds (67 + p) (.int .u32 (n : Int)) = (rC me z o s (updG f p n)).toArray := by
  rw [List.setIfInBounds_toArray]
  congr 1
  unfold rC
  rw [show 67 + p = (65 + p) + 1 + 1 by omega, List.set_cons_succ, List.set_cons_succ, List.set_append_right _ _ (by rw [rowT11_length]; omega), rowT11_length, show 65 + p - 64 = p + 1 by omega, List.set_cons_succ, rowG_set _ _ _ hp]
theorem rC_one (me z : Int) (o : Nat → Bool) (s : Nat) (f : Nat → Nat) : (rC me z o s f).toArray.all (·.oneCell') = true := by
  simp [rC, rowT11, rowG, Value.oneCell']
/-- The cells of the document's window. -/
def rW (W : Wn) : Array Value := (rC W.me (W.size : Int) W.oth.testBit W.sent W.got).toArray
theorem rW_size (W : Wn) : (rW W).size = 131 := by unfold rW; rw [List.size_toArray, rC_length]
theorem rW_one (W : Wn) : (rW W).all (·.oneCell') = true := rC_one _ _ _ _ _
theorem rw_size : (Try.prog.info? 32).map (·.size) = some 131 := by kernel_rfl
theorem rw_zero (w : World) : (zeroValue 32).run Try.prog w = .ok (.agg (rC 0 0 (fun _ => false) 0 (fun _ => 0)).toArray) w := by kernel_rfl
/-- A block that holds the document's window. -/
def RwB (w : World) (g : Nat) (W : Wn) : Prop := Own w g 32 (rW W)
theorem RwB.own {w : World} {g : Nat} {W : Wn} (h : RwB w g W) : Own w g 32 (rW W) := h
theorem RwB.lt {w : World} {g : Nat} {W : Wn} (h : RwB w g W) : g < w.heap.size := h.own.lt
theorem RwB.new (w : World) (W : Wn) : RwB (w.alloc (.cells (rW W) 32)) w.heap.size W := Own.new w _ _
theorem RwB.below {w w' : World} {g : Nat} {W : Wn} (h : RwB w g W) (hb : Below w.heap.size w w') : RwB w' g W := (hb.block g h.lt).trans h
theorem RwB.grown {w w' : World} {g : Nat} {W : Wn} {o : Option Nat} (h : RwB w g W) (hb : w.grownBy w' o) (hk : some g ≠ o) : RwB w' g W := (hb.block g h.lt hk).trans h
theorem RwB.c0 {w : World} {g : Nat} {W : Wn} (h : RwB w g W) : w.cell? ⟨g, 0, none⟩ = some (.int .i64 W.me) := h.own.at_ 0 _ rfl
theorem RwB.c1 {w : World} {g : Nat} {W : Wn} (h : RwB w g W) : w.cell? ⟨g, 1, none⟩ = some (.int .i64 (W.size : Int)) := h.own.at_ 1 _ rfl
theorem RwB.co {w : World} {g : Nat} {W : Wn} (h : RwB w g W) (p : Nat) (hp : p < 64) : w.cell? ⟨g, 2 + p, none⟩ = some (.bool (W.oth.testBit p)) :=
  h.own.at_ _ _ (by unfold rW; rw [List.getElem?_toArray]; exact rC_o _ _ _ _ _ _ hp)
theorem RwB.cs {w : World} {g : Nat} {W : Wn} (h : RwB w g W) : w.cell? ⟨g, 66, none⟩ = some (.int .u32 (W.sent : Int)) :=
  h.own.at_ _ _ (by unfold rW; rw [List.getElem?_toArray]; exact rC_s _ _ _ _ _)
theorem RwB.cf {w : World} {g : Nat} {W : Wn} (h : RwB w g W) (p : Nat) (hp : p < 64) : w.cell? ⟨g, 67 + p, none⟩ = some (.int .u32 (W.got p : Int)) :=
  h.own.at_ _ _ (by unfold rW; rw [List.getElem?_toArray]; exact rC_f _ _ _ _ _ _ hp)
theorem RwB.free {w : World} {g : Nat} {W : Wn} (h : RwB w g W) (j : Nat) : w.frozen? ⟨g, j, none⟩ = false := h.own.free j
theorem store_rw {ops : Array Oper} {rest : List Oper} {o : Oper} {A : Act} {w : World} {Q : Exit → Act → World → Prop} (hgd : o.guard = none) (x y : Operand) (ho : o.op = .store 32 x y)
    (g : Nat) (W : Wn) (hx : A.eval x = .pointer (some ⟨g, 0, none⟩)) (hy : A.eval y = .agg (rW W)) {old : Array Value} (hg : Own w g 32 old) (hs : old.size = 131)
    (h : wpList Try.prog ops Q rest (A.put o.dst undef) (w.setRow g (rW W))) : wpList Try.prog ops Q (o :: rest) A w :=
  wpList_store_row hgd 32 x y ho g _ hx hy 32 _ hg (by rw [rW_size]; exact rw_size) (by rw [hs, rW_size]) (rW_one W) h
theorem load_rw {ops : Array Oper} {rest : List Oper} {o : Oper} {A : Act} {w : World} {Q : Exit → Act → World → Prop} (hgd : o.guard = none) (x : Operand) (ho : o.op = .load 32 x)
    (g : Nat) (W : Wn) (hx : A.eval x = .pointer (some ⟨g, 0, none⟩)) (hg : RwB w g W) (h : wpList Try.prog ops Q rest (A.put o.dst (.agg (rW W))) w) : wpList Try.prog ops Q (o :: rest) A w :=
  wpList_load_row hgd 32 x ho g hx 32 _ _ _ hg Try.underlying32 rfl (by rw [rW_size]; exact rw_size) h

/-- p is one of the others, or isn't, and why. -/
theorem oth_cases (W : Wn) (p : Int) : (p < 0 ∧ othN W p = false) ∨ (0 ≤ p ∧ 64 ≤ p ∧ othN W p = false) ∨ ∃ k : Nat, p = (k : Int) ∧ k < 64 ∧ othN W p = W.oth.testBit k := by
  by_cases h0 : p < 0
  · refine .inl ⟨h0, ?_⟩
    unfold othN mem
    rw [decide_eq_false (show ¬ 0 ≤ p by omega)]; rfl
  · by_cases h1 : 64 ≤ p
    · refine .inr (.inl ⟨by omega, h1, ?_⟩)
      unfold othN mem
      rw [decide_eq_false (show ¬ p < 64 by omega)]; simp
    · obtain ⟨k, rfl⟩ := Int.eq_ofNat_of_zero_le (show 0 ≤ p by omega)
      exact .inr (.inr ⟨k, rfl, by omega, mem_lt (by omega)⟩)
set_option maxHeartbeats 4000000 in
theorem rof11 {W : Wn} (p : Int) (p0 : -9223372036854775808 ≤ p) (p1 : p ≤ 9223372036854775807) (w : World) :
    Calls Try.prog 22 #[.agg (rW W), .int .i64 p] w fun e w' => e = .returned (.int .u32 (ofN W p : Nat)) ∧ Below w.heap.size w w' := by
  have B := RwB.new w W
  have L := Lib.hid ((Grw.refl w).alloc (.cells (rW W) 32)).below
  have c0 := B.c0
  have cs := B.cs
  rcases oth_cases W p with ⟨h0, ho⟩ | ⟨h0, h1, ho⟩ | ⟨k, hpk, hk, ho⟩
  · have d0 : decide (0 ≤ p) = false := by simp; omega
    by_cases hp : p = W.me
    · rw [ofN_me ho hp]
      have hp' : (p == W.me) = true := by simpa using hp
      clear ho hp B
      generalize rW W = C at *
      go_enter Try.func22, Try.ntmps22
      go_wp2
      go_ret
      exact ⟨rfl, L.out⟩
    · rw [ofN_no ho hp]
      have hp' : (p == W.me) = false := by simpa using hp
      clear ho hp B
      generalize rW W = C at *
      go_enter Try.func22, Try.ntmps22
      go_wp2
      go_ret
      exact ⟨rfl, L.out⟩
  · have d0 : decide (0 ≤ p) = true := by simp; omega
    have d1 : decide (p < 64) = false := by simp; omega
    by_cases hp : p = W.me
    · rw [ofN_me ho hp]
      have hp' : (p == W.me) = true := by simpa using hp
      clear ho hp B
      generalize rW W = C at *
      go_enter Try.func22, Try.ntmps22
      go_wp2
      go_ret
      exact ⟨rfl, L.out⟩
    · rw [ofN_no ho hp]
      have hp' : (p == W.me) = false := by simpa using hp
      clear ho hp B
      generalize rW W = C at *
      go_enter Try.func22, Try.ntmps22
      go_wp2
      go_ret
      exact ⟨rfl, L.out⟩
  · have d0 : decide (0 ≤ p) = true := by simp; omega
    have d1 : decide (p < 64) = true := by simp; omega
    have co := B.co k hk
    cases hb : W.oth.testBit k with
    | false =>
      rw [hb] at ho co
      clear hb
      obtain rfl : p = (k : Int) := hpk
      by_cases hp : (k : Int) = W.me
      · rw [ofN_me ho hp]
        have hp' : ((k : Int) == W.me) = true := by simpa using hp
        clear ho hp B
        generalize rW W = C at *
        go_enter Try.func22, Try.ntmps22
        go_wp2
        go_ret
        exact ⟨rfl, L.out⟩
      · rw [ofN_no ho hp]
        have hp' : ((k : Int) == W.me) = false := by simpa using hp
        clear ho hp B
        generalize rW W = C at *
        go_enter Try.func22, Try.ntmps22
        go_wp2
        go_ret
        exact ⟨rfl, L.out⟩
    | true =>
      rw [hb] at ho co
      have cf := B.cf k hk
      rw [ofN_oth ho, hpk, Int.toNat_natCast]
      obtain rfl : p = (k : Int) := hpk
      have hki : (k : Int) < 64 := by omega
      clear hb ho B c0 cs
      generalize rW W = C at *
      go_enter Try.func22, Try.ntmps22
      go_wp2
      go_ret
      exact ⟨rfl, L.out⟩
set_option maxHeartbeats 4000000 in
theorem rlow11 {W : Wn} (w : World) :
    Calls Try.prog 18 #[.agg (rW W)] w fun e w' => e = .returned (.int .u32 (lowN W : Nat)) ∧ Below w.heap.size w w' := by
  have B := RwB.new w W
  have L := Lib.hid ((Grw.refl w).alloc (.cells (rW W) 32)).below
  have HK := Lib.hid (fun k (h1 : 64 ≤ k) (h2 : k ≤ 64) => lowN_at W k h1 h2)
  have HY := Lib.hid (lowK_yes W)
  have HN := Lib.hid (lowK_not W)
  have HO := Lib.hid (lowK_out W)
  generalize rW W = C at *
  go_enter Try.func18, Try.ntmps18
  go_upto_region 1 with fail
  have HB := Lib.hid B
  have cs := B.cs
  clear B
  generalize (w.alloc (.cells C 32)) = V at *
  go_wp2
  go_loop [3, 4] (fun s i => ∃ k : Nat, k ≤ 64 ∧ i = .int .i64 k ∧ s = .int .u32 (lowK W k : Nat)) (fun _ i => 64 - (intOf i).toNat)
  case atStart => exact ⟨0, Nat.zero_le _, rfl, by rw [lowK_zero]⟩
  case round =>
    obtain ⟨k, hk, rfl, rfl⟩ := hrel
    by_cases hlt : k < 64
    · have co := HB.out.co k hlt
      have cf := HB.out.cf k hlt
      cases hb : W.oth.testBit k with
      | false =>
        rw [hb] at co
        have e := Lib.hid (HO.out k hb)
        clear hb cf cs
        go_wp2
        go_round
        case rel => exact ⟨k + 1, by omega, by go_num, by rw [e.out]⟩
        case measure => simp [intOf]; omega
      | true =>
        rw [hb] at co
        cases hd : decide (W.got k < lowK W k) with
        | false =>
          have e := Lib.hid (HN.out k (by simp at hd; omega))
          clear hb cs
          go_wp2
          go_round
          case rel => exact ⟨k + 1, by omega, by go_num, by rw [e.out]⟩
          case measure => simp [intOf]; omega
        | true =>
          have e := Lib.hid (HY.out k hb (by simp at hd; omega))
          clear hb cs
          go_wp2
          go_round
          case rel => exact ⟨k + 1, by omega, by go_num, by rw [e.out]⟩
          case measure => simp [intOf]; omega
    · have HZ := Lib.hid (HK.out k (by omega) hk)
      clear cs
      go_wp2
      go_ret
      exact ⟨by rw [HZ.out]; rfl, L.out⟩
theorem or_one11 (a k : Nat) (ha : a < 18446744073709551616) (hk : k < 64) : bits .or .u64 (a : Int) (IntKind.u64.wrap (2 ^ k)) = ((any a (onl (k : Int)) : Nat) : Int) := by
  have := onl_shl k
  rw [Nat.min_eq_left (by omega)] at this
  rw [this, any_eq a _ ha (onl_lt _)]
set_option maxHeartbeats 4000000 in
theorem rlag11 {W : Wn} (w : World) :
    Calls Try.prog 20 #[.agg (rW W)] w fun e w' => e = .returned (.int .u64 (lagN W : Nat)) ∧ Below w.heap.size w w' := by
  have B := RwB.new w W
  have L := Lib.hid ((Grw.refl w).alloc (.cells (rW W) 32)).below
  have HK := Lib.hid (fun k (h1 : 64 ≤ k) (h2 : k ≤ 64) => setK_all (lagB W) k h1 h2)
  have HY := Lib.hid (setK_yes (lagB W))
  have HN := Lib.hid (setK_no (lagB W))
  generalize rW W = C at *
  go_enter Try.func20, Try.ntmps20
  go_upto_region 1 with fail
  have HB := Lib.hid B
  clear B
  generalize (w.alloc (.cells C 32)) = V at *
  go_wp2
  go_loopw [3, 4] (fun s i wr => ∃ k n : Nat, k ≤ 64 ∧ i = .int .i64 k ∧ s = .int .u64 (setK (lagB W) k : Nat) ∧ wr = V.drewN n) (fun _ i _ => 64 - (intOf i).toNat)
  case atStart => exact ⟨0, 0, Nat.zero_le _, rfl, rfl, rfl⟩
  case round =>
    obtain ⟨k, n, hk, rfl, rfl, rfl⟩ := hrel
    by_cases hlt : k < 64
    · have co : (V.drewN n).cell? ⟨w.heap.size, 2 + k, none⟩ = _ := HB.out.co k hlt
      have cf : (V.drewN n).cell? ⟨w.heap.size, 67 + k, none⟩ = _ := HB.out.cf k hlt
      have cs : (V.drewN n).cell? ⟨w.heap.size, 66, none⟩ = _ := HB.out.cs
      have hdr : ∀ m, (V.drewN n).drewN m = V.drewN (n + m) := fun m => World.drewN_drewN _ _ _
      have HDR := Lib.hid hdr
      clear hdr
      have hki : (k : Int) < 64 := by omega
      generalize V.drewN n = U at *
      have hbd : Hid (lagB W k = (W.oth.testBit k && decide (W.got k < W.sent))) := Lib.hid rfl
      cases hb : W.oth.testBit k with
      | false =>
        rw [hb] at co
        have e := Lib.hid (HN.out k (by rw [hbd.out, hb]; rfl))
        clear hb cf cs hbd
        go_upto_region 5 with fail
        go_quiet (fail)
        go_wp2
        go_roundw
        case rel => exact ⟨k + 1, n + nq, by omega, by go_num, by rw [e.out], HDR.out nq⟩
        case measure => simp [intOf]; omega
      | true =>
        rw [hb] at co
        cases hd : decide (W.got k < W.sent) with
        | false =>
          have e := Lib.hid (HN.out k (by rw [hbd.out, hb, hd]; rfl))
          clear hb hbd
          go_upto_region 5 with fail
          go_quiet (fail)
          go_wp2
          go_roundw
          case rel => exact ⟨k + 1, n + nq, by omega, by go_num, by rw [e.out], HDR.out nq⟩
          case measure => simp [intOf]; omega
        | true =>
          have e := Lib.hid (HY.out k (by rw [hbd.out, hb, hd]; rfl))
          have hor := Lib.hid (or_one11 (setK (lagB W) k) k (setK_lt _ _) hlt)
          clear hb hbd
          go_upto_region 5 with fail
          go_quiet (fail)
          go_wp2
          go_roundw
          case rel => exact ⟨k + 1, n + nq, by omega, by go_num, by rw [hor.out, e.out], HDR.out nq⟩
          case measure => simp [intOf]; omega
    · have HZ := Lib.hid (HK.out k (by omega) hk)
      have HL := Lib.hid (show Below w.heap.size w (V.drewN n) from L.out.trans ((below_drewN11 V n).mono L.out.size))
      go_wp2
      go_ret
      exact ⟨by rw [HZ.out]; rfl, HL.out⟩
end Go.Proofs.Ytlmajpckgjnbdaa
