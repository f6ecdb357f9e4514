/- Strange. -/
import Derived.Test.YtcjbjcojmjfmaaaEarEq
set_option linter.unusedVariables false
set_option linter.unusedSimpArgs false
namespace Go.Proofs.Ytcjbjcojmjfmaaa
open Go.RowKit Go.Sort

theorem other_neq (b : Bt) (e : Nat) (r : Int) (w : World) : (binOp .neq 25 (.agg #[.int .u64 (b.pe : Int), .int .i64 b.pr]) (.agg #[.int .u64 (e : Int), .int .i64 r])).run Try.prog w = .ok (.bool (otherB b e r)) w := by
  rw [neq_conf]
  unfold otherB
  rw [show decide ((b.pe : Int) = (e : Int)) = decide (b.pe = e) from decide_eq_decide.2 (by omega)]
/-- A beat put into a new variable. -/
theorem btb_put (w : World) (b : Bt) : BtB ((w.alloc (.cells #[.int .u64 0, .int .i64 0, .int .u64 0, .int .i64 0, .int .u64 0] 33)).setRow w.heap.size #[.int .u64 (b.ce : Int), .int .i64 b.cr, .int .u64 (b.pe : Int), .int .i64 b.pr, .int .u64 (b.ep : Int)]) w.heap.size b ∧ Below w.heap.size w ((w.alloc (.cells #[.int .u64 0, .int .i64 0, .int .u64 0, .int .i64 0, .int .u64 0] 33)).setRow w.heap.size #[.int .u64 (b.ce : Int), .int .i64 b.cr, .int .u64 (b.pe : Int), .int .i64 b.pr, .int .u64 (b.ep : Int)]) :=
  ⟨BtB.put (BtB.zero w) b, ebelowRow ((Grw.refl w).alloc _).below _ (Nat.le_refl _) _⟩
/-- What List answers, as the cells of a row. -/
theorem list_cells (a : Nat) (w : World) (ha : a < 18446744073709551616) :
    Calls Try.prog 29 #[.int .u64 (a : Int)] w fun e w' => e = .returned (.slice (some ⟨w.heap.size, 0, none⟩) (lst a).length (lst a).length) ∧ (∀ k (hk : k < (lst a).length), w'.cell? ⟨w.heap.size, k, none⟩ = some (.int .i64 ((lst a)[k] : Nat))) ∧ Below w.heap.size w w' := by
  refine (list_any a w ha).mono ?_
  rintro e w1 ⟨rfl, hin, L1⟩
  rw [← lst_length]
  refine ⟨rfl, fun k hk => ?_, L1⟩
  obtain ⟨ad, e1, hc⟩ := hin.src k ((lst a)[k] : Nat) (by unfold ints; rw [List.getElem?_map, List.getElem?_eq_getElem hk]; rfl)
  cases e1
  rw [show (⟨w.heap.size, 0, none⟩ : Addr).add k = ⟨w.heap.size, k, none⟩ by cases k <;> simp [Addr.add]] at hc
  exact hc

set_option maxHeartbeats 4000000 in
theorem estrange {w : World} {g : Nat} {E : Er} (h : EarAt w g E) (s : Nat) (hs : s < 18446744073709551616) (e : Nat) (r : Int) :
    Calls Try.prog 20 #[.pointer (some ⟨g, 0, none⟩), .int .u64 (s : Int), .agg #[.int .u64 (e : Int), .int .i64 r]] w fun e' w' => e' = .returned (.int .u64 (strangeE E s e r : Nat)) ∧ Below w.heap.size w w' := by
  have hg := h.lt
  have L1 := ((Grw.refl w).alloc (.cells #[.int .u64 (e : Int), .int .i64 r] 25)).below
  have A1 := h.below L1
  have B1 := Own.new w 25 #[.int .u64 (e : Int), .int .i64 r]
  have HK := Lib.hid (strange_all E s e r)
  have hn64 : Hid (∀ k (hk : k < (lst s).length), (lst s)[k] < 64) := Lib.hid fun k hk => ((lst_mem s _).1 (List.getElem_mem hk)).1
  have hnl : (lst s).length ≤ 64 := by rw [lst_length]; exact card_le s
  have HT := Lib.hid (fun k (hk : k < (lst s).length) => (List.take_succ_eq_append_getElem hk : (lst s).take (k + 1) = (lst s).take k ++ [(lst s)[k]]))
  have HT0 := Lib.hid (fun k (hk : (lst s).length ≤ k) => (List.take_of_length_le hk : (lst s).take k = lst s))
  have HL := list_cells s (w.alloc (.cells #[.int .u64 (e : Int), .int .i64 r] 25)) hs
  have hz : (w.alloc (.cells #[.int .u64 (e : Int), .int .i64 r] 25)).heap.size = w.heap.size + 1 := by simp
  rw [hz] at HL
  clear h
  generalize lst s = l at *
  have HL := Lib.hid HL
  have HZ := Lib.hid hz
  clear hz
  go_enter Try.func20, Try.ntmps20
  go_wp2_with fail
  refine HL.out.mono ?_
  rintro e' w2 ⟨rfl, hrow, L2⟩
  have hrow := Lib.hid hrow
  have A2 := A1.below (L2.mono (by rw [HZ.out]; exact Nat.le_refl _))
  have B2 := B1.below L2 (by omega)
  have L2' := Lib.hid (L1.trans (L2.mono (by omega)))
  have HA := Lib.hid A2
  have HB := Lib.hid B2
  clear L1 A1 B1 L2 A2 B2 HL HZ
  rename_i hrow'
  clear hrow'
  obtain ⟨n, hn⟩ : ∃ n, n = l.length := ⟨_, rfl⟩
  rw [← hn] at hnl ⊢
  have hn := Lib.hid hn
  go_wp2
  go_loopw [7, 15] (fun t i wr => ∃ k : Nat, k ≤ n ∧ i = .int .i64 k ∧ t = .int .u64 (strangeL E (l.take k) e r : Nat) ∧ Below w2.heap.size w2 wr) (fun _ i _ => n - (intOf i).toNat)
  case atStart => exact ⟨0, Nat.zero_le _, rfl, by rw [List.take_zero, strangeL_nil]; rfl, Below.refl _ _⟩
  case round =>
    obtain ⟨k, hk, rfl, rfl, L⟩ := hrel
    by_cases hlt : k < n
    · have hkl : k < l.length := by rw [← hn.out]; exact hlt
      have c0 := cell_later L (hrow.out k hkl)
      have hx := hn64.out k hkl
      have hT := Lib.hid (HT.out k hkl)
      generalize l[k] = x at *
      have A := HA.out.below L
      have B := HB.out.below L HB.out.lt
      have HOF := eof A (x : Int) (by omega) (by omega)
      have HY := Lib.hid (strangeL_yes E (l.take k) x e r hx)
      have HN := Lib.hid (strangeL_no E (l.take k) x e r)
      have hlt2 := strangeL_lt E (l.take k) e r
      generalize hb : ofB E x = b at *
      generalize ho : ofO E x = o at *
      clear hb ho A
      have HOF := Lib.hid HOF
      have hsz := L.size
      go_upto_region 6 with (first | (go_at_call 14; refine HOF.out.mono ?_; rintro e' w3 ⟨rfl, L3⟩) | (refine store_bt rfl (.tmp 10) (.tmp 23) rfl w3.heap.size b rfl rfl (BtB.zero w3) ?_))
      (try simp only [Act.put])
      obtain ⟨RB, LB⟩ := btb_put w3 b
      have LV := Lib.hid (L.trans ((L3.trans (LB.mono L3.size)).mono L.size))
      have BV := (B.below L3 B.lt).below LB (Nat.lt_of_lt_of_le B.lt L3.size)
      clear LB L3 HOF B L c0
      generalize ((w3.alloc (.cells #[.int .u64 0, .int .i64 0, .int .u64 0, .int .i64 0, .int .u64 0] 33)).setRow w3.heap.size #[.int .u64 (b.ce : Int), .int .i64 b.cr, .int .u64 (b.pe : Int), .int .i64 b.pr, .int .u64 (b.ep : Int)]) = V at *
      generalize w3.heap.size = bb at *
      cases o
      · have HZ := Lib.hid (HN.out rfl)
        clear HN HY RB BV
        go_wp2
        go_roundw
        case rel => exact ⟨k + 1, by omega, by go_num, by rw [hT.out, ← HZ.out], LV.out⟩
        case measure => simp [intOf]; omega
      · have d2 := RB.d2
        have d3 := RB.d3
        have v0 := BV.at_ 0 _ rfl
        have v1 := BV.at_ 1 _ rfl
        have hq := other_neq b e r
        generalize hqb : otherB b e r = q at *
        clear hqb
        cases q
        · have HZ := Lib.hid (HN.out rfl)
          clear HN HY RB BV
          go_wp2
          go_roundw
          case rel => exact ⟨k + 1, by omega, by go_num, by rw [hT.out, ← HZ.out], LV.out⟩
          case measure => simp [intOf]; omega
        · have HZ := Lib.hid (HY.out rfl)
          have HWi := with_any (strangeL E (l.take k) e r) (some ⟨V.heap.size, 0, none⟩) 1 1 [(x : Int)] _ hlt2 (InI.one V (x : Int) (by omega) (by omega)) (by decide)
          rw [HZ.out] at HWi
          have HWi := Lib.hid HWi
          clear HN HY RB BV
          rename_i HWi'
          clear HWi'
          go_wp2_with (go_at_call 30; refine HWi.out.mono ?_; rintro e' w' ⟨rfl, rfl⟩)
          go_roundw
          case rel => exact ⟨k + 1, by omega, by go_num, by rw [hT.out], LV.out.trans (((Grw.refl V).alloc _).below.mono LV.out.size)⟩
          case measure => simp [intOf]; omega
    · have hk2 : l.length ≤ k := by rw [← hn.out]; omega
      have HX := Lib.hid ((congrArg (fun m => strangeL E m e r) (HT0.out k hk2)).trans HK.out)
      have HLL := Lib.hid (L2'.out.trans (L.mono L2'.out.size))
      clear L hk2
      go_wp2
      go_ret
      exact ⟨by rw [← HX.out]; rfl, HLL.out⟩
end Go.Proofs.Ytcjbjcojmjfmaaa
