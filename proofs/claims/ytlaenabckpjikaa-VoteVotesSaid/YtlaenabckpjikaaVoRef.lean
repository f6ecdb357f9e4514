/- Layer 18: the law's 'of'; the document's Last and Views. (Written by wip/gen_voref.py.) -/
import Derived.Test.YtlaenabckpjikaaVoFew
import Derived.Test.YtlaenabckpjikaaRefList
set_option linter.unusedVariables false
set_option maxRecDepth 100000
set_option linter.unusedSimpArgs false
namespace Go.Proofs.Ytlaenabckpjikaa
open Go.RowKit Go.Sort Go.Maps

/-- A block that holds one of the document's records. -/
def RdB (w : World) (g : Nat) (x : Rc) : Prop := Own w g 61 (encRc x).toArray
theorem RdB.new (w : World) (x : Rc) : RdB (w.alloc (.cells #[.int .u64 (x.p.last.n : Int), .int .u64 (x.p.last.e : Int), .int .i64 x.p.last.r, .int .u64 (x.p.last.m : Int), .slice x.a x.k x.c] 61)) w.heap.size x := Own.new w _ _
theorem rd_lst {w : World} {g : Nat} {x : Rc} (h : RdB w g x) : Lst encRc 5 w (some ⟨g, 0, none⟩) 1 [x] := ⟨rfl, fun _ => ⟨g, 0, rfl, fun i y hy j u hu => by
  cases i with
  | zero =>
    cases hy
    rw [show 0 + 0 * 5 + j = j by omega]
    exact Own.at_ h j u (by rw [← List.getElem?_toArray] at hu; exact hu)
  | succ i => cases hy⟩⟩
set_option maxHeartbeats 4000000 in
theorem vof {w : World} {ao : Option Addr} {n : Nat} {l : List Rc} (h : RcL w ao n l) (c : Nat) (hn : n ≤ 1000) :
    Calls Try.prog 9 #[.slice ao n c] w fun e w' => ∃ a' c', e = .returned (.slice a' n c') ∧ w'.ownsRow w.heap.size 61 5 (.slice a' n c') n (flat encRc l) ∧ Below w.heap.size w w' := by
  have HL := Lib.hid h
  have HLEN := Lib.hid h.at_.size
  clear h
  go_enter Try.func9, Try.ntmps9
  go_wp2
  go_loopw [3, 4] (fun sv si wr => ∃ (k : Nat) (a3 : Option Addr) (c3 : Nat), k ≤ n ∧ sv = .slice a3 k c3 ∧ si = .int .i64 k ∧ Aside (Below w.heap.size w wr) ∧ Aside (wr.ownsRow w.heap.size 61 5 (.slice a3 k c3) k (flat encRc (l.take k)))) (fun _ si _ => n - (intOf si).toNat)
  case atStart => exact ⟨0, none, 0, Nat.zero_le _, rfl, rfl, Below.refl _ _, World.ownsRow_nil _ _ _ _⟩
  case round =>
    obtain ⟨k, a3, c3, hk, rfl, rfl, HB, HO⟩ := hrel
    by_cases hlt : k < n
    · obtain ⟨b, o, x, rfl, hx, hr, hin⟩ := HL.out.row hlt
      have HRW := Lib.hid hr
      have HT := Lib.hid (show flat encRc (l.take (k + 1)) = flat encRc (l.take k) ++ flat encRc [x] by rw [take_snoc hx, flat_append])
      go_upto_region 5 with fail
      have D0 : Below wr.heap.size wr wr.drew := (Grw.refl wr).drew.below
      have HB5 := HB.out.trans (D0.mono HB.out.size)
      have hr5 : wr.drew.rangeAt b (o + k * 5) (encRc x) := fun j u hj => cell_later HB5 (hr j u hj)
      have HO5 := own_below18 HO.out D0
      refine wp_region_held_drew (S := fun w' => w'.rangeAt b (o + k * 5) (encRc x)) (by kernel_rfl) hr5 (fun hHeld => ?_)
      clear hr hr5 D0 HB HO hx hin
      generalize wr.drew = w5 at *
      obtain ⟨⟨⟨vn, ve, vr, vm⟩, pe⟩, pa, pk, pc⟩ := x
      refine vtake (i := 0) (v := (.slice a3 k c3)) 11 rfl (by kernel_rfl) (by kernel_rfl) (by kernel_rfl) (by kernel_rfl) (fun _ _ _ h => h) (.inl ⟨by kernel_rfl, fun w' hS => by (go_simp)⟩) hHeld ?_
      (try simp only [Act.put, List.setIfInBounds_toArray, List.set_cons_zero, List.set_cons_succ])
      refine vtake (i := 1) (v := (.slice (some ⟨b, o, none⟩) n c)) 12 rfl (by kernel_rfl) (by kernel_rfl) (by kernel_rfl) (by kernel_rfl) (fun _ _ _ h => h) (.inl ⟨by kernel_rfl, fun w' hS => by (go_simp)⟩) hHeld ?_
      (try simp only [Act.put, List.setIfInBounds_toArray, List.set_cons_zero, List.set_cons_succ])
      refine vtake (i := 2) (v := (.int .i64 (k : Int))) 13 rfl (by kernel_rfl) (by kernel_rfl) (by kernel_rfl) (by kernel_rfl) (fun _ _ _ h => h) (.inl ⟨by kernel_rfl, fun w' hS => by (go_simp)⟩) hHeld ?_
      (try simp only [Act.put, List.setIfInBounds_toArray, List.set_cons_zero, List.set_cons_succ])
      refine vtake (i := 3) (v := (.pointer (some ⟨b, o + k * 5, none⟩))) 14 rfl (by kernel_rfl) (by kernel_rfl) (by kernel_rfl) (by kernel_rfl) (fun _ _ _ h => h) (.inl ⟨by kernel_rfl, fun w' hS => by (go_simp)⟩) hHeld ?_
      (try simp only [Act.put, List.setIfInBounds_toArray, List.set_cons_zero, List.set_cons_succ])
      refine vtake (i := 4) (v := (.pointer (some ⟨b, o + k * 5, none⟩))) 15 rfl (by kernel_rfl) (by kernel_rfl) (by kernel_rfl) (by kernel_rfl) (fun _ _ _ h => h) (.inl ⟨by kernel_rfl, fun w' hS => by (go_simp)⟩) hHeld ?_
      (try simp only [Act.put, List.setIfInBounds_toArray, List.set_cons_zero, List.set_cons_succ])
      refine vtake (i := 5) (v := (.agg #[.int .u64 vn, .int .u64 ve, .int .i64 vr, .int .u64 vm])) 16 rfl (by kernel_rfl) (by kernel_rfl) (by kernel_rfl) (by kernel_rfl) (fun _ _ _ h => h) (.inl ⟨by kernel_rfl, fun w' hS => by (have d0 : w'.cell? ⟨b, o + k * 5, none⟩ = some (.int .u64 vn) := hS 0 _ rfl; have d1 : w'.cell? ⟨b, o + k * 5 + 1, none⟩ = some (.int .u64 ve) := hS 1 _ rfl; have d2 : w'.cell? ⟨b, o + k * 5 + 2, none⟩ = some (.int .i64 vr) := hS 2 _ rfl; have d3 : w'.cell? ⟨b, o + k * 5 + 3, none⟩ = some (.int .u64 vm) := hS 3 _ rfl; have d4 : w'.cell? ⟨b, o + k * 5 + 4, none⟩ = some (.slice pa pk pc) := hS 4 _ rfl; go_simp)⟩) hHeld ?_
      (try simp only [Act.put, List.setIfInBounds_toArray, List.set_cons_zero, List.set_cons_succ])
      refine vtake (i := 6) (v := (.slice (some ⟨b, o, none⟩) n c)) 17 rfl (by kernel_rfl) (by kernel_rfl) (by kernel_rfl) (by kernel_rfl) (fun _ _ _ h => h) (.inl ⟨by kernel_rfl, fun w' hS => by (go_simp)⟩) hHeld ?_
      (try simp only [Act.put, List.setIfInBounds_toArray, List.set_cons_zero, List.set_cons_succ])
      refine vtake (i := 7) (v := (.int .i64 (k : Int))) 18 rfl (by kernel_rfl) (by kernel_rfl) (by kernel_rfl) (by kernel_rfl) (fun _ _ _ h => h) (.inl ⟨by kernel_rfl, fun w' hS => by (go_simp)⟩) hHeld ?_
      (try simp only [Act.put, List.setIfInBounds_toArray, List.set_cons_zero, List.set_cons_succ])
      refine vtake (i := 8) (v := (.pointer (some ⟨b, o + k * 5, none⟩))) 19 rfl (by kernel_rfl) (by kernel_rfl) (by kernel_rfl) (by kernel_rfl) (fun _ _ _ h => h) (.inl ⟨by kernel_rfl, fun w' hS => by (go_simp)⟩) hHeld ?_
      (try simp only [Act.put, List.setIfInBounds_toArray, List.set_cons_zero, List.set_cons_succ])
      refine vtake (i := 9) (v := (.pointer (some ⟨b, o + k * 5 + 4, none⟩))) 20 rfl (by kernel_rfl) (by kernel_rfl) (by kernel_rfl) (by kernel_rfl) (fun _ _ _ h => h) (.inl ⟨by kernel_rfl, fun w' hS => by (go_simp)⟩) hHeld ?_
      (try simp only [Act.put, List.setIfInBounds_toArray, List.set_cons_zero, List.set_cons_succ])
      refine vtake (i := 10) (v := (.slice pa pk pc)) 21 rfl (by kernel_rfl) (by kernel_rfl) (by kernel_rfl) (by kernel_rfl) (fun _ _ _ h => h) (.inl ⟨by kernel_rfl, fun w' hS => by (have d0 : w'.cell? ⟨b, o + k * 5, none⟩ = some (.int .u64 vn) := hS 0 _ rfl; have d1 : w'.cell? ⟨b, o + k * 5 + 1, none⟩ = some (.int .u64 ve) := hS 1 _ rfl; have d2 : w'.cell? ⟨b, o + k * 5 + 2, none⟩ = some (.int .i64 vr) := hS 2 _ rfl; have d3 : w'.cell? ⟨b, o + k * 5 + 3, none⟩ = some (.int .u64 vm) := hS 3 _ rfl; have d4 : w'.cell? ⟨b, o + k * 5 + 4, none⟩ = some (.slice pa pk pc) := hS 4 _ rfl; go_simp)⟩) hHeld ?_
      (try simp only [Act.put, List.setIfInBounds_toArray, List.set_cons_zero, List.set_cons_succ])
      refine vtake (i := 11) (v := (.agg #[.int .u64 vn, .int .u64 ve, .int .i64 vr, .int .u64 vm, .slice pa pk pc])) 22 rfl (by kernel_rfl) (by kernel_rfl) (by kernel_rfl) (by kernel_rfl) (fun _ _ _ h => h) (.inl ⟨by kernel_rfl, fun w' hS => by (go_simp)⟩) hHeld ?_
      (try simp only [Act.put, List.setIfInBounds_toArray, List.set_cons_zero, List.set_cons_succ])
      refine wpAnyH_ready (rs := [12]) (by kernel_rfl) (by simp) (AllReadyH.cons rfl (fun K hK => ?_) AllReadyH.nil)
      rw [if_pos (by kernel_rfl)]
      go_simp
      have L6 := ((Grw.refl w5).alloc (.cells #[.int .u64 vn, .int .u64 ve, .int .i64 vr, .int .u64 vm, .slice pa pk pc] 61)).below
      have N6 := rd_lst (RdB.new w5 ⟨⟨⟨vn, ve, vr, vm⟩, pe⟩, pa, pk, pc⟩)
      have O6 := own_below18 HO5 L6
      have B6 := HB5.trans (L6.mono HB5.size)
      have R6 : (w5.alloc (.cells #[.int .u64 vn, .int .u64 ve, .int .i64 vr, .int .u64 vm, .slice pa pk pc] 61)).rangeAt b (o + k * 5) (encRc ⟨⟨⟨vn, ve, vr, vm⟩, pe⟩, pa, pk, pc⟩) := fun j u hj => cell_later L6 (hHeld j u hj)
      refine hK.out _ _ R6 (fun hHeld => ?_)
      clear hK K HO5 HB5 L6
      (try simp only [Act.put, List.setIfInBounds_toArray, List.set_cons_zero, List.set_cons_succ])
      refine wpAnyH_ready (rs := [13]) (by kernel_rfl) (by simp) (AllReadyH.cons rfl (fun K hK => ?_) AllReadyH.nil)
      rw [if_pos (by kernel_rfl)]
      refine wp_append18 26 61 Try.underlying26 infoRd rfl (by decide) (by decide) encRc_length encRc_one _ (.tmp 11) (.tmp 23) rfl w.heap.size (.slice a3 k c3) k _ rfl O6 (some ⟨w5.heap.size, 0, none⟩) 1 1 _ rfl (fun h => by cases h) N6 (by omega) B6.size ?_
      intro v7 w7 h1 h2
      have B7 := Lib.hid (grown_below B6 (Nat.le_refl _) O6 h2)
      obtain ⟨a7, c7, rfl⟩ := own_form' h1
      have O7 := Lib.hid (own_eq h1 rfl HT.out.symm)
      have hS7 : w7.rangeAt b (o + k * 5) (encRc ⟨⟨⟨vn, ve, vr, vm⟩, pe⟩, pa, pk, pc⟩) := fun j u hj => cell_later B7.out (HRW.out j u hj)
      refine hK.out _ _ hS7 (fun hHeld => ?_)
      clear hK K h1 h2 O6 B6 N6 R6 hS7
      (try simp only [Act.put, List.setIfInBounds_toArray, List.set_cons_zero, List.set_cons_succ])
      refine vtake (i := 14) (v := (.slice a7 (k + 1) c7)) 3 rfl (by kernel_rfl) (by kernel_rfl) (by kernel_rfl) (by kernel_rfl) (fun _ _ _ h => h) (.inl ⟨by kernel_rfl, fun w' hS => by (go_simp)⟩) hHeld ?_
      (try simp only [Act.put, List.setIfInBounds_toArray, List.set_cons_zero, List.set_cons_succ])
      refine wpAnyH_done (by kernel_rfl) ?_ _
      clear hHeld
      go_wp2
      go_roundw
      case rel => exact ⟨k + 1, a7, c7, by omega, rfl, by go_num, B7.out, O7.out⟩
      case measure => simp [intOf]; omega
    · obtain rfl : k = n := by omega
      have HO2 := Lib.hid (own_eq HO.out rfl (show _ = flat encRc l by rw [List.take_of_length_le (by rw [HLEN.out]; exact Nat.le_refl _)]))
      go_wp2
      go_ret
      first
        | exact ⟨a3, c3, rfl, HO2.out, HB.out⟩
        | exact ⟨a3, ⟨c3, rfl⟩, HO2.out, HB.out⟩
set_option maxHeartbeats 4000000 in
theorem rlast {w : World} {ao : Option Addr} {n : Nat} {l : List Rc} (h : RcL w ao n l) (c : Nat) (hn : n ≤ 100000) :
    Calls Try.prog 12 #[.slice ao n c] w fun e w' => e = .returned (valV (lastR (psL l))) ∧ Below w.heap.size w w' := by
  have L1 := ((Grw.refl w).alloc (.cells #[.int .u64 0, .int .u64 0, .int .i64 0, .int .u64 0] 31)).below
  have R1 := Lib.hid (VwB.zero w)
  have B1 := Lib.hid L1
  have HL := Lib.hid (h.below L1)
  have HLEN := Lib.hid h.at_.size
  clear h L1
  go_enter Try.func12, Try.ntmps12
  go_upto_region 2 with fail
  generalize w.alloc (.cells #[.int .u64 0, .int .u64 0, .int .i64 0, .int .u64 0] 31) = w1 at *
  have W1 := Lib.hid (Below.refl w1.heap.size w1)
  go_loopw [3] (fun si wr => ∃ k : Nat, k ≤ n ∧ si = .int .i64 k ∧ Aside (Below w1.heap.size w1 wr) ∧ Aside (∀ (j : Nat) (x : Rc), j < k → l[j]? = some x → ∃ y ∈ l, x.p.last.n < y.p.last.n)) (fun si _ => n - (intOf si).toNat)
  case atStart => exact ⟨0, Nat.zero_le _, rfl, W1.out, fun j x hj => absurd hj (Nat.not_lt_zero _)⟩
  case round =>
    obtain ⟨k, hk, rfl, HB, HN⟩ := hrel
    by_cases hlt : k < n
    · obtain ⟨b, o, x, rfl, hx, hr, hin⟩ := HL.out.row hlt
      have HRX := Lib.hid hr
      have HXX := Lib.hid hx
      obtain ⟨xn, hxn⟩ : ∃ xn, xn = x.p.last.n := ⟨_, rfl⟩
      have HXN := Lib.hid hxn
      clear hr hx hin hxn
      go_upto_region 6 with fail
      have Wr := Lib.hid HB.out
      go_loopw [4, 5] (fun so sj wr => ∃ (j : Nat) (ok : Bool), j ≤ n ∧ so = .bool ok ∧ sj = .int .i64 j ∧ Aside (Below w1.heap.size w1 wr) ∧ Aside (ok = true ↔ ∀ y ∈ l.take j, y.p.last.n ≤ xn)) (fun _ sj _ => n - (intOf sj).toNat)
      case atStart => exact ⟨0, true, Nat.zero_le _, rfl, rfl, Wr.out, ⟨fun _ y hy => (by cases hy), fun _ => rfl⟩⟩
      case round =>
        obtain ⟨j, ok, hj, rfl, rfl, HB2, HOK⟩ := hrel
        by_cases hjl : j < n
        · obtain ⟨b', o', y, hbo, hy, hr, hin⟩ := HL.out.row hjl
          injection hbo with hbo
          injection hbo with hb1 ho1 _
          subst hb1 ho1
          have c0 : wr.cell? ⟨b, o + j * 5, none⟩ = some (.int .u64 (y.p.last.n : Int)) := cell_later HB2.out (hr 0 _ rfl)
          have e0 : wr.cell? ⟨b, o + k * 5, none⟩ = some (.int .u64 (xn : Int)) := by have := cell_later HB2.out (HRX.out 0 _ rfl); rw [HXN.out]; exact this
          obtain ⟨yn, hyn⟩ : ∃ yn, yn = y.p.last.n := ⟨_, rfl⟩
          rw [← hyn] at c0
          have HT := Lib.hid (show (∀ z ∈ l.take (j + 1), z.p.last.n ≤ xn) ↔ (∀ z ∈ l.take j, z.p.last.n ≤ xn) ∧ yn ≤ xn by
            rw [take_snoc hy, hyn]
            constructor
            · intro h; exact ⟨fun z hz => h z (List.mem_append_left _ hz), h y (by simp)⟩
            · rintro ⟨h1, h2⟩ z hz
              rcases List.mem_append.1 hz with hz | hz
              · exact h1 z hz
              · rw [List.mem_singleton.1 hz]; exact h2)
          clear hr hin hy hyn
          go_upto_region 8 with fail
          cases ok with
          | false =>
            go_quiet (fail)
            have HB3 := Lib.hid (HB2.out.trans (Below.mono (show Below wr.heap.size wr (wr.drewN nq) from ⟨rfl, rfl, rfl, Nat.le_refl _, fun _ _ => rfl⟩) HB2.out.size))
            have HF := Lib.hid (show (false = true ↔ ∀ z ∈ l.take (j + 1), z.p.last.n ≤ xn) by rw [HT.out]; exact ⟨fun h => (by cases h), fun h => HOK.out.2 h.1⟩)
            go_wp2
            go_roundw
            case rel => exact ⟨j + 1, false, by omega, rfl, by go_num, HB3.out, HF.out⟩
            case measure => simp [intOf]; omega
          | true =>
            have hd : decide ((yn : Int) ≤ (xn : Int)) = decide (yn ≤ xn) := by
              by_cases h : yn ≤ xn
              · rw [decide_eq_true h, decide_eq_true (by omega)]
              · rw [decide_eq_false h, decide_eq_false (by omega)]
            go_quiet (fail)
            have HB3 := Lib.hid (HB2.out.trans (Below.mono (show Below wr.heap.size wr (wr.drewN nq) from ⟨rfl, rfl, rfl, Nat.le_refl _, fun _ _ => rfl⟩) HB2.out.size))
            have HF := Lib.hid (show (decide (yn ≤ xn) = true ↔ ∀ z ∈ l.take (j + 1), z.p.last.n ≤ xn) by rw [HT.out, decide_eq_true_iff]; exact ⟨fun h => ⟨HOK.out.1 rfl, h⟩, fun h => h.2⟩)
            go_wp2
            go_roundw
            case rel => exact ⟨j + 1, decide (yn ≤ xn), by omega, rfl, by go_num, HB3.out, HF.out⟩
            case measure => simp [intOf]; omega
        · obtain rfl : n = j := by omega
          have HOK2 := Lib.hid (show (ok = true ↔ ∀ y ∈ l, y.p.last.n ≤ xn) by
            have := HOK.out
            rw [List.take_of_length_le (by rw [HLEN.out]; exact Nat.le_refl _)] at this
            exact this)
          clear HOK
          cases ok with
          | true =>
            have HLL := Lib.hid (show lastR (psL l) = x.p.last from by
              unfold lastR psL
              rw [List.map_map]
              refine lastV_first _ k _ (by rw [List.getElem?_map, HXX.out]; rfl) (fun z hz => ?_) (fun j z hj hz => ?_)
              · obtain ⟨y, hy, rfl⟩ := List.mem_map.1 hz
                have := HOK2.out.1 rfl y hy
                rw [HXN.out] at this
                exact this
              · rw [List.getElem?_map] at hz
                obtain ⟨y, hy, rfl⟩ := Option.map_eq_some_iff.1 hz
                obtain ⟨q, hq, hlt2⟩ := HN.out j y hj hy
                exact ⟨_, List.mem_map.2 ⟨q, hq, rfl⟩, hlt2⟩)
            have R5 := Lib.hid (R1.out.later HB2.out)
            have d := HRX.out
            have Z5 := Lib.hid (R5.out.row x.p.last)
            have B5 := Lib.hid (belowRow18 (B1.out.trans (HB2.out.mono B1.out.size)) w.heap.size (Nat.le_refl _) (encV x.p.last).toArray)
            have HC := Lib.hid (show wr.rangeAt b (o + k * 5) (encV x.p.last) from fun i u hi => by
              have hi4 : i < 4 := (List.getElem?_eq_some_iff.1 hi).1
              refine cell_later HB2.out (HRX.out i u ?_)
              match i, hi4, hi with
              | 0, _, hi => exact hi
              | 1, _, hi => exact hi
              | 2, _, hi => exact hi
              | 3, _, hi => exact hi)
            clear d HN HOK2 HXN HXX
            go_wp2_with (first | (refine load_vwm rfl (.tmp 38) rfl b (o + k * 5) x.p.last rfl HC.out ?_) | (refine store_vw rfl (.tmp 2) (.tmp 39) rfl w.heap.size x.p.last rfl rfl R5.out ?_))
            (try simp only [Exit.inBlock, Exit.then])
            exact bodyPost_ret (results_vw rfl _ _ w.heap.size rfl Z5.out) rfl ⟨by rw [HLL.out], B5.out⟩
          | false =>
            have HN2 := Lib.hid (show ∀ (j : Nat) (z : Rc), j < k + 1 → l[j]? = some z → ∃ y ∈ l, z.p.last.n < y.p.last.n from fun j z hj hz => by
              rcases Nat.lt_or_ge j k with h | h
              · exact HN.out j z h hz
              · obtain rfl : j = k := by omega
                rw [HXX.out] at hz
                have hz := Option.some.inj hz
                subst hz
                have : ¬ ∀ y ∈ l, y.p.last.n ≤ xn := fun h => by have := HOK2.out.2 h; cases this
                refine Classical.byContradiction fun hn => this fun y hy => ?_
                rw [HXN.out]
                exact Nat.le_of_not_lt fun h => hn ⟨y, hy, h⟩)
            clear HN HOK2
            go_wp2
            go_roundw
            case rel => exact ⟨k + 1, by omega, by go_num, HB2.out, HN2.out⟩
            case measure => simp [intOf]; omega
    · obtain rfl : n = k := by omega
      have HE := Lib.hid (show lastR (psL l) = zeroV from by
        by_cases hn0 : l = []
        · rw [hn0]; rfl
        · exfalso
          have hne : l.map (fun x => x.p.last) ≠ [] := fun e => hn0 (List.map_eq_nil_iff.1 e)
          obtain ⟨i, hi, hm, _⟩ := lastV_spec _ hne
          rw [List.getElem?_map] at hi
          obtain ⟨y, hy, hyl⟩ := Option.map_eq_some_iff.1 hi
          have hil : i < n := by rw [← HLEN.out]; exact (List.getElem?_eq_some_iff.1 hy).1
          obtain ⟨q, hq, hlt2⟩ := HN.out i y hil hy
          have := hm _ (List.mem_map.2 ⟨q, hq, rfl⟩)
          rw [← hyl] at this
          exact Nat.lt_irrefl _ (Nat.lt_of_lt_of_le hlt2 this))
      have R5 := Lib.hid (R1.out.later HB.out)
      have Z5 := Lib.hid (R5.out.row zeroV)
      have B5 := Lib.hid (belowRow18 (B1.out.trans (HB.out.mono B1.out.size)) w.heap.size (Nat.le_refl _) (encV zeroV).toArray)
      clear HN
      go_wp2_with (first | (refine store_vw rfl (.tmp 2) (.tmp 40) rfl w.heap.size zeroV rfl rfl R5.out ?_) | fail)
      (try simp only [Exit.inBlock, Exit.then])
      exact bodyPost_ret (results_vw rfl _ _ w.heap.size rfl Z5.out) rfl ⟨by rw [HE.out], B5.out⟩
end Go.Proofs.Ytlaenabckpjikaa
