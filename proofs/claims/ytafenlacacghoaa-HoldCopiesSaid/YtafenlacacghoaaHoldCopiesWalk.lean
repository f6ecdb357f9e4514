/- The walk of HoldCopies. -/
import Derived.Test.YtafenlacacghoaaHdDo
set_option linter.unusedVariables false
set_option linter.unusedSimpArgs false
namespace Go.Proofs.Ytafenlacacghoaa
open Go.RowKit Go.Sort

theorem Ha.ok.below {w w' : World} {a : Ha} (h : a.ok w) (hb : Below w.heap.size w w') : a.ok w' := ⟨h.p0, h.p1, h.u, Lst.below h.d hb, h.q0, h.q1⟩
/-- Two answers of Above of the same messages. -/
theorem above_same {O : List Mg} {X Y : List Mg} (h : IsSrt Mg.key (O.map strip) (X.map strip)) (k : IsSrt Mg.key (O.map strip) (Y.map strip)) : X.map strip = Y.map strip := IsSrt.one h k
theorem above_few {w : World} {F : Nat → Prop} {g N : Nat} {S : Hs} (h : HRep w F g N S) (hN : N ≤ 1000) (kk : K) {X : List Mg} (hs : IsSrt Mg.key ((catF S.R kk 64).map strip) (X.map strip)) : X.length ≤ 64000 := by
  have h1 := hs.fil.length
  rw [List.length_map, List.length_map] at h1
  have h2 := catF_len S.R kk N (fun p hp => by have := h.bnd p hp; unfold Hs.cnt at this; omega) 64 (Nat.le_refl _)
  have h3 : 64 * N ≤ 64 * 1000 := Nat.mul_le_mul (Nat.le_refl _) hN
  omega
set_option maxHeartbeats 8000000 in
set_option maxRecDepth 100000 in
theorem copies_core (ao : Option Addr) (len cap : Nat) (l : List Ha) (n : Int) (n0 : -9223372036854775808 ≤ n) (n1 : n ≤ 9223372036854775807) (w : World) (hl : Lst encA 9 w ao len l) (hok : ∀ a ∈ l, a.ok w) :
    Calls Try.prog 5 #[.slice ao len cap, .int .i64 n] w fun e w' => e = .returned (.bool true) ∧ Below w.heap.size w w' := by
  have PA := hawake w
  have HL := Lib.hid hl
  have HO := Lib.hid hok
  clear hl hok
  go_enter Try.func5, Try.ntmps5
  go_wp2_with fail
  refine PA.mono ?_
  rintro e w1 ⟨rfl, B1⟩
  have PF := hfew ao len cap l w1 (HL.out.below B1)
  have HB1 := Lib.hid B1
  clear PA B1
  go_wp2_with fail
  refine PF.mono ?_
  rintro e w2 ⟨h2, B2⟩
  have HB2 := Lib.hid (HB1.out.trans (B2.mono HB1.out.size))
  clear PF B2 HB1
  rcases h2 with rfl | ⟨rfl, hlen, hdl⟩
  · go_wp2
    go_ret
    exact ⟨rfl, HB2.out⟩
  by_cases hn0 : n < 0
  · have hd0 : decide (n < 0) = true := by simpa using hn0
    clear hdl
    go_wp2
    go_ret
    exact ⟨rfl, HB2.out⟩
  obtain ⟨m, rfl⟩ := Int.eq_ofNat_of_zero_le (show 0 ≤ n by omega)
  by_cases hn1 : len < m
  · have hz : (len : Int) < (m : Int) := by omega
    clear hdl
    go_wp2
    go_ret
    exact ⟨rfl, HB2.out⟩
  have hz : ¬ (len : Int) < (m : Int) := by omega
  have HDL := Lib.hid hdl
  have PN := oh_new w w2 HB2.out
  clear hdl hn0
  go_wp2_with fail
  refine PN.mono ?_
  rintro e w3 ⟨rfl, H3⟩
  generalize hg : w2.heap.size = g at *
  have HS3 : Hid (OwnD (fun _ => False) w w3 g 0 (runH (l.take 0))) := Lib.hid H3.free
  clear PN H3 hg HB2
  go_wp2_with fail
  go_loopw [7] (fun si wr => ∃ k : Nat, k ≤ m ∧ si = .int .i64 k ∧ Hid (OwnD (fun _ => False) w wr g k (runH (l.take k)))) (fun si _ => m - (intOf si).toNat)
  case atStart => exact ⟨0, Nat.zero_le _, rfl, HS3⟩
  case round =>
    obtain ⟨k, hk, rfl, HS⟩ := hrel
    by_cases hlt : k < m
    · obtain ⟨b, o, x, rfl, hx, hb, hc⟩ := HL.out.atA (show k < len by omega)
      have hxm := List.mem_of_getElem? hx
      have hcr : ∀ c v, (encA x)[c]? = some v → wr.cell? ⟨b, o + k * 9 + c, none⟩ = some v := fun c v hv => cell_later HS.out.bel (hc c v hv)
      have c0 := hcr 0 _ rfl
      have c1 := hcr 1 _ rfl
      have c2 := hcr 2 _ rfl
      have c3 := hcr 3 _ rfl
      have c4 := hcr 4 _ rfl
      have c5 := hcr 5 _ rfl
      have c6 := hcr 6 _ rfl
      have c7 := hcr 7 _ rfl
      have c8 := hcr 8 _ rfl
      rw [Nat.add_zero] at c0
      have P := od_do HS.out (by omega) x ((HO.out x hxm).below HS.out.bel) (by have := HDL.out x hxm; omega)
      rw [← runH_next l k x hx] at P
      clear hcr hc hx hxm HS
      obtain ⟨dr, p, upto, ⟨f, q, s, v, da, dl, dc, deps, text⟩⟩ := x
      simp only at c0 c1 c2 c3 c4 c5 c6 c7 c8
      unfold encA at P
      simp only [encG] at P
      go_wp2_with fail
      refine P.mono ?_
      rintro e w4 ⟨rfl, h4, _⟩
      have HS4 := Lib.hid h4
      clear P h4 c0 c1 c2 c3 c4 c5 c6 c7 c8
      go_wp2
      go_roundw
      case rel => exact ⟨k + 1, by omega, by go_num, HS4⟩
      case measure => simp [intOf]; omega
    · obtain rfl : k = m := by omega
      obtain ⟨F1, h1, hF1, _⟩ := HS.out.ex
      have P1 := hs_copy2 h1 (by omega)
      have HR1 := Lib.hid (And.intro h1 hF1)
      have HB := Lib.hid HS.out.bel
      clear h1 hF1 HS
      go_wp2_with fail
      refine P1.mono ?_
      rintro e w4 ⟨gc, rfl, hc4, B4⟩
      have h4 := HR1.out.1.below B4
      have P2 := hs_above h4 (by omega) ⟨0, 0⟩
      have HC4 := Lib.hid hc4
      have HB4 := Lib.hid B4
      simp only at P2
      clear P1 hc4 B4 h4
      go_wp2_with fail
      refine P2.mono ?_
      rintro e w5 ⟨⟨sa, sn, sc⟩, Y0, rfl, hO5, hS5, B5⟩
      have hBB : Below wr.heap.size wr w5 := HB4.out.trans (B5.mono HB4.out.size)
      have HC5 := Lib.hid (HC4.out.below B5)
      have HO5 := Lib.hid (And.intro hO5 hS5)
      have hsz4 := HB4.out.size
      have hsz5 := B5.size
      have HST : Hid (OwnD (fun j => wr.heap.size ≤ j ∧ j < w5.heap.size) w w5 g k (runH (l.take k))) := Lib.hid ⟨⟨F1, HR1.out.1.below hBB, HR1.out.2, fun j hj hf => by have := HR1.out.1.lim j hf; omega⟩, HB.out.trans (hBB.mono HB.out.size), fun j hj => hj.2⟩
      have hwA := HB.out.size
      clear P2 hO5 hS5 B5 hBB HC4 HR1 HB HB4
      generalize hA : wr.heap.size = A at *
      clear hA
      go_wp2_with fail
      go_loopw [10] (fun si w6 => ∃ i : Nat, k ≤ i ∧ i ≤ len ∧ si = .int .i64 i ∧ Hid (OwnD (fun j => A ≤ j ∧ j < w5.heap.size) w w6 g i (runH (l.take i)) ∧ (∀ j, (A ≤ j ∧ j < w5.heap.size) → w6.heap[j]? = w5.heap[j]?) ∧ w5.heap.size ≤ w6.heap.size)) (fun si _ => len - (intOf si).toNat)
      case atStart => exact ⟨k, Nat.le_refl _, by omega, rfl, Lib.hid ⟨HST.out, fun _ _ => rfl, Nat.le_refl _⟩⟩
      case round =>
        obtain ⟨i, hki, hi, rfl, HS⟩ := hrel
        by_cases hlt2 : i < len
        · obtain ⟨b, o, x, rfl, hx, hb, hc⟩ := HL.out.atA hlt2
          have hxm := List.mem_of_getElem? hx
          have hcr : ∀ c v, (encA x)[c]? = some v → wr.cell? ⟨b, o + i * 9 + c, none⟩ = some v := fun c v hv => cell_later HS.out.1.bel (hc c v hv)
          have c0 := hcr 0 _ rfl
          have c1 := hcr 1 _ rfl
          have c2 := hcr 2 _ rfl
          have c3 := hcr 3 _ rfl
          have c4 := hcr 4 _ rfl
          have c5 := hcr 5 _ rfl
          have c6 := hcr 6 _ rfl
          have c7 := hcr 7 _ rfl
          have c8 := hcr 8 _ rfl
          rw [Nat.add_zero] at c0
          have P := od_do HS.out.1 (by omega) x ((HO.out x hxm).below HS.out.1.bel) (by have := HDL.out x hxm; omega)
          rw [← runH_next l i x hx] at P
          clear hcr hc hx hxm
          obtain ⟨dr, p, upto, ⟨f, q, s, v, da, dl, dc, deps, text⟩⟩ := x
          simp only at c0 c1 c2 c3 c4 c5 c6 c7 c8
          unfold encA at P
          simp only [encG] at P
          go_wp2_with fail
          refine P.mono ?_
          rintro e w7 ⟨rfl, h7, hk7, hz7⟩
          have HS7 : Hid (OwnD (fun j => A ≤ j ∧ j < w5.heap.size) w w7 g (i + 1) (runH (l.take (i + 1))) ∧ (∀ j, (A ≤ j ∧ j < w5.heap.size) → w7.heap[j]? = w5.heap[j]?) ∧ w5.heap.size ≤ w7.heap.size) := Lib.hid ⟨h7, fun j hj => (hk7 j hj).trans (HS.out.2.1 j hj), Nat.le_trans HS.out.2.2 hz7⟩
          clear P h7 hk7 c0 c1 c2 c3 c4 c5 c6 c7 c8 HS
          go_wp2
          go_roundw
          case rel => exact ⟨i + 1, by omega, by omega, by go_num, HS7⟩
          case measure => simp [intOf]; omega
        · obtain rfl : i = len := by omega
          obtain ⟨F1, h1, hF1, hD1⟩ := HS.out.1.ex
          have hsz6 := HS.out.2.2
          have hkeep := HS.out.2.1
          have hc6 : HRep wr (newB A w4) gc k (runH (l.take k)) := HC5.out.kept hsz6 fun j hj => hkeep j ⟨hj.1, by have := hj.2; omega⟩
          have hO6 : OutR wr w4.heap.size ⟨sa, sn, sc⟩ Y0 := HO5.out.1.kept fun j hj hj2 => hkeep j ⟨by omega, hj2⟩
          have hS6 := HO5.out.2
          have P1 := hs_above hc6 (by omega) ⟨0, 0⟩
          have hfw := above_few hc6 (by omega) ⟨0, 0⟩ (X := Y0) hS6
          have HC6 := Lib.hid hc6
          have HO6 := Lib.hid (And.intro hO6 (And.intro hS6 hfw))
          have HR6 := Lib.hid (And.intro h1 (And.intro hF1 hD1))
          have HB6 := Lib.hid HS.out.1.bel
          simp only at P1
          clear hc6 hO6 hS6 hfw h1 hF1 hD1 hkeep HS HC5 HO5 HST
          go_wp2_with fail
          refine P1.mono ?_
          rintro e w7 ⟨⟨ta, tn, tc⟩, Y1, rfl, hO7, hS7, B7⟩
          have hY : Y1.map strip = Y0.map strip := above_same hS7 HO6.out.2.1
          have hfw7 : tn ≤ 1048576 := by
            have e1 : Y1.length = tn := hO7.slot.len
            have e2 := congrArg List.length hY
            rw [List.length_map, List.length_map] at e2
            have := HO6.out.2.2
            omega
          have P2 := all_rows hO7 (HO6.out.1.below B7) hY hfw7
          have HB7 := Lib.hid (HB6.out.trans (B7.mono HB6.out.size))
          have HC7 := Lib.hid (HC6.out.below B7)
          have HR7 := Lib.hid (And.intro (HR6.out.1.below B7) HR6.out.2)
          simp only at P2
          clear P1 hO7 hS7 B7 hY hfw7 HO6 HC6 HR6 HB6
          go_wp2_with fail
          refine P2.mono ?_
          rintro e w8 ⟨rfl, hG⟩
          have HH8 := Lib.hid (HR7.out.1.below hG.below)
          have HST8 : Hid (OwnD F1 w w8 gc k (runH (l.take k))) := Lib.hid ⟨⟨newB A w4, HC7.out.below hG.below, fun j hj => by have := hj.1; omega, fun j hj hf => HR7.out.2.2 j ⟨hf.1, by have := hf.2; omega⟩ hj⟩, HB7.out.trans (hG.below.mono HB7.out.size), fun j hj => HH8.out.lim j hj⟩
          have HF := Lib.hid HR7.out.2.1
          clear P2 hG HB7 HC7 HR7
          go_wp2_with fail
          go_loopw [11] (fun si w6 => ∃ j : Nat, k ≤ j ∧ j ≤ i ∧ si = .int .i64 j ∧ Hid (OwnD F1 w w6 gc j (runH (l.take j)) ∧ (∀ z, F1 z → w6.heap[z]? = w8.heap[z]?) ∧ w8.heap.size ≤ w6.heap.size)) (fun si _ => i - (intOf si).toNat)
          case atStart => exact ⟨k, Nat.le_refl _, by omega, rfl, Lib.hid ⟨HST8.out, fun _ _ => rfl, Nat.le_refl _⟩⟩
          case round =>
            obtain ⟨j, hkj, hj, rfl, HS⟩ := hrel
            by_cases hlt3 : j < i
            · obtain ⟨b, o, x, rfl, hx, hb, hc⟩ := HL.out.atA (show j < i by omega)
              have hxm := List.mem_of_getElem? hx
              have hcr : ∀ c v, (encA x)[c]? = some v → wr.cell? ⟨b, o + j * 9 + c, none⟩ = some v := fun c v hv => cell_later HS.out.1.bel (hc c v hv)
              have c0 := hcr 0 _ rfl
              have c1 := hcr 1 _ rfl
              have c2 := hcr 2 _ rfl
              have c3 := hcr 3 _ rfl
              have c4 := hcr 4 _ rfl
              have c5 := hcr 5 _ rfl
              have c6 := hcr 6 _ rfl
              have c7 := hcr 7 _ rfl
              have c8 := hcr 8 _ rfl
              rw [Nat.add_zero] at c0
              have P := od_do HS.out.1 (by omega) x ((HO.out x hxm).below HS.out.1.bel) (by have := HDL.out x hxm; omega)
              rw [← runH_next l j x hx] at P
              clear hcr hc hx hxm
              obtain ⟨dr, p, upto, ⟨f, q, s, v, da, dl, dc, deps, text⟩⟩ := x
              simp only at c0 c1 c2 c3 c4 c5 c6 c7 c8
              unfold encA at P
              simp only [encG] at P
              go_wp2_with fail
              refine P.mono ?_
              rintro e w9 ⟨rfl, h9, hk9, hz9⟩
              have HS9 : Hid (OwnD F1 w w9 gc (j + 1) (runH (l.take (j + 1))) ∧ (∀ z, F1 z → w9.heap[z]? = w8.heap[z]?) ∧ w8.heap.size ≤ w9.heap.size) := Lib.hid ⟨h9, fun z hz => (hk9 z hz).trans (HS.out.2.1 z hz), Nat.le_trans HS.out.2.2 hz9⟩
              clear P h9 hk9 c0 c1 c2 c3 c4 c5 c6 c7 c8 HS
              go_wp2
              go_roundw
              case rel => exact ⟨j + 1, by omega, by omega, by go_num, HS9⟩
              case measure => simp [intOf]; omega
            · obtain rfl : j = i := by omega
              obtain ⟨F2, h2, hF2, hD2⟩ := HS.out.1.ex
              have hh : HRep wr F1 g j (runH (l.take j)) := HH8.out.kept HS.out.2.2 HS.out.2.1
              have P1 := hs_above h2 (by omega) ⟨0, 0⟩
              have HC := Lib.hid h2
              have HHH := Lib.hid hh
              have HB := Lib.hid HS.out.1.bel
              simp only at P1
              clear h2 hF2 hD2 hh HS HST8 HH8
              generalize runH (l.take j) = S at *
              go_wp2_with fail
              refine P1.mono ?_
              rintro e w10 ⟨⟨ta, tn, tc⟩, Y1, rfl, hO10, hS10, B10⟩
              have P2 := hs_above (HHH.out.below B10) (by omega) ⟨0, 0⟩
              have hfw : tn ≤ 1048576 := by
                have e1 : Y1.length = tn := hO10.slot.len
                have := above_few HC.out (by omega) ⟨0, 0⟩ hS10
                omega
              have HO10 := Lib.hid (And.intro hO10 (And.intro hS10 B10))
              simp only at P2
              clear P1 hO10 hS10 B10
              go_wp2_with fail
              refine P2.mono ?_
              rintro e w11 ⟨⟨ua, un, uc⟩, Y2, rfl, hO11, hS11, B11⟩
              have P3 := all_rows (HO10.out.1.below B11) hO11 (above_same HO10.out.2.1 hS11) hfw
              have B12 := HO10.out.2.2.trans (B11.mono HO10.out.2.2.size)
              have HC2 := Lib.hid (HC.out.below B12)
              have HH2 := Lib.hid (HHH.out.below B12)
              have HB2 := Lib.hid (HB.out.trans (B12.mono HB.out.size))
              simp only at P3
              clear P2 hO11 hS11 B11 B12 HO10 HC HHH HB
              go_wp2_with fail
              refine P3.mono ?_
              rintro e w12 ⟨rfl, hG⟩
              have Q1 := hs_low (HC2.out.below hG.below) 1
              have Q2 := hs_low (HH2.out.below hG.below) 1
              have Q3 := hs_count (HC2.out.below hG.below) (by omega) 1
              have Q4 := hs_count (HH2.out.below hG.below) (by omega) 1
              have HB3 := Lib.hid (HB2.out.trans (hG.below.mono HB2.out.size))
              generalize onP 0 S.lo 1 = x1 at *
              generalize onP 0 S.cnt 1 = x2 at *
              clear P3 hG HC2 HH2 HB2
              go_wp2_with (first | (go_at_call 26; (first | (with_reducible refine Q1.mono ?_) | (with_reducible refine Q2.mono ?_)); rintro e w' ⟨rfl, rfl⟩) | (go_at_call 18; (first | (with_reducible refine Q3.mono ?_) | (with_reducible refine Q4.mono ?_)); rintro e w' ⟨rfl, rfl⟩))
              go_ret
              exact ⟨rfl, HB3.out⟩
theorem walk_HoldCopies {w : World} (ao : Option Addr) (len cap : Nat) (l : List Ha) (hl : Lst encA 9 w ao len l ∧ ∀ m ∈ l, m.ok w) (n : Int) (wn : (Lit.int .i64 n).wf = true) :
    Calls Try.prog 5 #[.slice ao len cap, .int .i64 n] w fun e w' => e = .returned (.bool true) ∧ Below w.heap.size w w' := by
  have b0 := Go.bounds_i64 wn
  exact copies_core ao len cap l n (by omega) (by omega) w hl.1 hl.2
end Go.Proofs.Ytafenlacacghoaa
