/- Layer 19: writing a view, a record. -/
import Derived.Test.YtblefbjmjhgkkaaLgWr
import Derived.Deep.LoopGhost
set_option linter.unusedVariables false
set_option maxRecDepth 100000
set_option linter.unusedSimpArgs false
namespace Go.Proofs.Ytblefbjmjhgkkaa
open Go.RowKit Go.Sort

theorem errP_if (r : Int) : (if 0 ≤ r ∧ r ≤ ((63 : Nat) : Int) then 0 else 1) = errP r := rfl
set_option maxHeartbeats 2000000 in
theorem wview (B g : Nat) (l : List UInt8) (w : World) (h : Wr B g w l) (v : Vw) (hv : v.ok) (hl : l.length ≤ 1099510000000) :
    Calls Try.prog 61 #[.pointer (some ⟨g, 0, none⟩), .agg #[.int .u64 (v.n : Int), .int .u64 (v.e : Int), .int .i64 v.r, .int .u64 (v.m : Int)]] w (WP (errVw v) (putVw v) B g l w) := by
  obtain ⟨vn, ve, vr, vm⟩ := v
  have hn : vn < 18446744073709551616 := hv.n
  have he : ve < 18446744073709551616 := hv.e
  have hm : vm < 18446744073709551616 := hv.m
  clear hv
  have hle := h.le
  have hlt := h.lt
  have O0 := Own.new w 28 #[.int .u64 (vn : Int), .int .u64 (ve : Int), .int .i64 vr, .int .u64 (vm : Int)]
  have H0 := h.later ((Grw.refl w).alloc (.cells #[.int .u64 (vn : Int), .int .u64 (ve : Int), .int .i64 vr, .int .u64 (vm : Int)] 28)).below
  have K0 := wrote_alloc (B := B) (g := g) hle (.cells #[.int .u64 (vn : Int), .int .u64 (ve : Int), .int .i64 vr, .int .u64 (vm : Int)] 28)
  have HPV := Lib.hid (show putVw ⟨vn, ve, vr, vm⟩ = pb 8 vn ++ (pb 8 ve ++ (putP vr ++ pb 8 vm)) from rfl)
  have HEV := Lib.hid (show errVw ⟨vn, ve, vr, vm⟩ = errP vr from rfl)
  go_enter Try.func61, Try.ntmps61
  go_wp2_with fail
  refine (wput B g l _ H0 vn 8 8 (by decide) (by decide) (by decide) hn (by omega)).mono ?_
  rintro e w1 ⟨rfl, H1, K1⟩
  have O1 := O0.wrote K1 (by omega) (by decide)
  have K1 := K0.trans K1
  have c1 := O1.at_ 1 _ rfl
  clear O0 H0 K0
  go_wp2_with fail
  refine (wput B g _ _ H1 ve 8 8 (by decide) (by decide) (by decide) he (by rw [List.length_append, pb_length]; omega)).mono ?_
  rintro e w2 ⟨rfl, H2, K2⟩
  have O2 := O1.wrote K2 (by omega) (by decide)
  have K2 := K1.trans K2
  have c2 := O2.at_ 2 _ rfl
  clear O1 H1 K1 c1
  go_wp2_with fail
  refine (wsmall B g _ _ H2 vr 0 1 63 1 1 (by decide) (by decide) (by decide) (by decide) (by decide) (by decide) (by rw [List.length_append, List.length_append, pb_length, pb_length]; omega)).mono ?_
  rintro e w3 (⟨hc, rfl, H3, K3⟩ | ⟨hc, rfl, K3⟩)
  rotate_left
  · rw [errP_if] at hc ⊢
    exact ⟨rfl, .inr ⟨by rw [HEV.out]; exact hc, by rw [HEV.out], K2.trans K3⟩⟩
  rw [errP_if] at hc
  have HC := Lib.hid hc
  have O3 := O2.wrote K3 (by omega) (by decide)
  have K3 := K2.trans K3
  have c3 := O3.at_ 3 _ rfl
  clear O2 H2 K2 c2 hc
  go_wp2_with fail
  refine (wput B g _ _ H3 vm 8 8 (by decide) (by decide) (by decide) hm (by rw [List.length_append, List.length_append, List.length_append, pb_length, pb_length, pb_length]; omega)).mono ?_
  rintro e w4 ⟨rfl, H4, K4⟩
  have K4 := K3.trans K4
  clear O3 H3 K3 c3
  go_wp2
  go_end0
  refine .inl ⟨by rw [HEV.out]; exact HC.out, rfl, ?_, K4⟩
  rw [HPV.out]
  rw [List.append_assoc, List.append_assoc, List.append_assoc] at H4
  exact H4

/-- A row of views below a bound, in whatever world stands on it. -/
theorem vcells {w0 : World} {a : Option Addr} {n : Nat} {L : List Vw} (h : VwL w0 a n L) {j : Nat} (hj : j < n) {B : Nat} (hB : w0.heap.size = B) :
    ∃ b o v, a = some ⟨b, o, none⟩ ∧ L[j]? = some v ∧ v.ok ∧ ∀ w, Below B w0 w → ∀ (c : Nat) (u : Value), (encV v)[c]? = some u → w.cell? ⟨b, o + j * 4 + c, none⟩ = some u := by
  obtain ⟨b, o, v, e, hv, hr, hok⟩ := h.row hj
  refine ⟨b, o, v, e, hv, hok, fun w hb c u hu => ?_⟩
  have := hr c u hu
  have hlt : b < B := by rw [← hB]; exact World.block_lt_of_cell? _ _ this
  exact (hb.cell (p := ⟨b, o + j * 4 + c, none⟩) hlt).trans this
/-- k views were written; what is wrong with all hangs on the rest. -/
structure SomeV (xs : List Vw) (k : Nat) : Prop where
  err : errVws xs = errVws (xs.drop k)
theorem SomeV.zero (xs : List Vw) : SomeV xs 0 := ⟨by rw [List.drop_zero]⟩
theorem SomeV.bad {xs : List Vw} {k : Nat} {x : Vw} (h : SomeV xs k) (hk : xs[k]? = some x) (he : errVw x ≠ 0) : errVws xs = errVw x := by
  obtain ⟨hl, rfl⟩ := List.getElem?_eq_some_iff.1 hk
  rw [h.err, List.drop_eq_getElem_cons hl]
  exact orN_left he
theorem SomeV.step {xs : List Vw} {k : Nat} {x : Vw} (h : SomeV xs k) (hk : xs[k]? = some x) (he : errVw x = 0) : SomeV xs (k + 1) := by
  obtain ⟨hl, rfl⟩ := List.getElem?_eq_some_iff.1 hk
  refine ⟨?_⟩
  rw [h.err, List.drop_eq_getElem_cons hl]
  exact orN_right he
theorem SomeV.done {xs : List Vw} {k : Nat} (h : SomeV xs k) (hk : xs.length ≤ k) : errVws xs = 0 := by rw [h.err, List.drop_of_length_le hk]; rfl
theorem putVws_take {xs : List Vw} {k : Nat} {x : Vw} (hk : xs[k]? = some x) : putVws (xs.take (k + 1)) = putVws (xs.take k) ++ putVw x := by rw [take_snocV hk, putVws_snoc]
set_option maxHeartbeats 4000000 in
theorem wrecord (B g : Nat) (l : List UInt8) (w0 w : World) (h : Wr B g w l) (hu : Und B w0 w) (x : Rcv) (hx : RcIn w0 x) (hxk : x.k ≤ 1099511627776) (hl : l.length ≤ 1099500000000) :
    Calls Try.prog 57 #[.pointer (some ⟨g, 0, none⟩), .agg #[.int .u64 (x.p.last.n : Int), .int .u64 (x.p.last.e : Int), .int .i64 x.p.last.r, .int .u64 (x.p.last.m : Int), .slice x.a x.k x.c]] w (WP (errRec x.p) (putRec x.p) B g l w) := by
  have HLEN := Lib.hid hx.len
  have HX := Lib.hid hx.pend
  have hok := hx.last
  have HVW := Lib.hid (fun W l (hW : Wr B g W l) (hl : l.length ≤ 1099510000000) => wview B g l W hW x.p.last hok hl)
  obtain ⟨⟨⟨vn, ve, vr, vm⟩, L⟩, a, n, c⟩ := x
  clear hx hok
  simp only at HLEN HX HVW hxk ⊢
  have hle := h.le
  have hlt := h.lt
  have O0 := Own.new w 31 #[.int .u64 (vn : Int), .int .u64 (ve : Int), .int .i64 vr, .int .u64 (vm : Int), .slice a n c]
  have H0 := h.later ((Grw.refl w).alloc (.cells #[.int .u64 (vn : Int), .int .u64 (ve : Int), .int .i64 vr, .int .u64 (vm : Int), .slice a n c] 31)).below
  have K0 := wrote_alloc (B := B) (g := g) hle (.cells #[.int .u64 (vn : Int), .int .u64 (ve : Int), .int .i64 vr, .int .u64 (vm : Int), .slice a n c] 31)
  have HER := Lib.hid (show errRec ⟨⟨vn, ve, vr, vm⟩, L⟩ = orN (errVw ⟨vn, ve, vr, vm⟩) (orN (if 32 < L.length then 3 else 0) (errVws L)) from rfl)
  have HPR := Lib.hid (show putRec ⟨⟨vn, ve, vr, vm⟩, L⟩ = putVw ⟨vn, ve, vr, vm⟩ ++ (pb 1 L.length ++ putVws L) from rfl)
  have HPL := putVw_length ⟨vn, ve, vr, vm⟩
  generalize errVw ⟨vn, ve, vr, vm⟩ = ev at *
  generalize putVw ⟨vn, ve, vr, vm⟩ = pv at *
  generalize errRec ⟨⟨vn, ve, vr, vm⟩, L⟩ = er at *
  generalize putRec ⟨⟨vn, ve, vr, vm⟩, L⟩ = pr at *
  have HU := Lib.hid hu
  clear hu h
  go_enter Try.func57, Try.ntmps57
  go_wp2_with fail
  refine (HVW.out _ l H0 (by omega)).mono ?_
  rintro e w1 (⟨hc, rfl, H1, K1⟩ | ⟨hc, rfl, K1⟩)
  rotate_left
  · have he : er = ev := by rw [HER.out]; exact orN_left hc
    exact ⟨rfl, .inr ⟨by rw [he]; exact hc, by rw [he], K0.trans K1⟩⟩
  have HER1 := Lib.hid (show er = orN (if 32 < L.length then 3 else 0) (errVws L) by rw [HER.out]; exact orN_right hc)
  have O1 := O0.wrote K1 (by omega) (by decide)
  have K1 := K0.trans K1
  have c4 := O1.at_ 4 _ rfl
  clear O0 H0 K0 hc HER HVW
  go_wp2_with fail
  refine (wsmall B g _ _ H1 (n : Int) 0 1 32 3 1 (by decide) (by decide) (by decide) (by decide) (by decide) (by decide) (by rw [List.length_append, HPL]; omega)).mono ?_
  rintro e w2 (⟨hc, rfl, H2, K2⟩ | ⟨hc, rfl, K2⟩)
  rotate_left
  · have hn32 : ¬ n ≤ 32 := fun hn => hc (if_pos ⟨by omega, by omega⟩)
    have he : er = 3 := by rw [HER1.out, HLEN.out, if_pos (by omega)]; rfl
    have hq : (if (0 : Int) ≤ (n : Int) ∧ (n : Int) ≤ ((32 : Nat) : Int) then 0 else 3) = 3 := if_neg (by omega)
    rw [hq]
    exact ⟨rfl, .inr ⟨by rw [he]; decide, by rw [he], K1.trans K2⟩⟩
  have hn32 : n ≤ 32 := by
    by_cases hn : n ≤ 32
    · exact hn
    · rw [if_neg (by omega)] at hc; cases hc
  have HER2 := Lib.hid (show er = errVws L by rw [HER1.out, HLEN.out, if_neg (by omega)]; rfl)
  have O2 := O1.wrote K2 (by omega) (by decide)
  have K2 := K1.trans K2
  have c4 := O2.at_ 4 _ rfl
  rw [Int.toNat_natCast] at H2
  clear O1 H1 K1 hc HER1
  go_wp2_with fail
  have HN : (n : Int) ≤ 32 := by omega
  clear O2 c4
  go_loopw [18] (fun si wr => ∃ k : Nat, k ≤ n ∧ si = .int .i64 (k : Int) ∧ Wr B g wr (l ++ pv ++ pb 1 n ++ putVws (L.take k)) ∧ Wrote B g w wr ∧ SomeV L k) (fun si _ => n - (intOf si).toNat)
  case atStart => exact ⟨0, Nat.zero_le _, rfl, by rw [List.take_zero, putVws, List.append_nil]; exact H2, K2, SomeV.zero _⟩
  case round =>
    clear H2 K2
    obtain ⟨k, hk, rfl, H, K, hS⟩ := hrel
    by_cases hlt : k < n
    · obtain ⟨b, o, v, rfl, hv, hvok, hcell⟩ := vcells HX.out hlt HU.out.size
      have hcw := hcell wr (HU.out.below.trans K.below)
      have HP := Lib.hid (putVws_take hv)
      have HB := Lib.hid (fun he => hS.bad hv he)
      have HSt := Lib.hid (fun he => hS.step hv he)
      have hLN : (l ++ pv ++ pb 1 n ++ putVws (L.take k)).length ≤ 1099510000000 := by
        rw [List.length_append, List.length_append, List.length_append, pb_length, HPL, putVws_length, List.length_take]
        have := HLEN.out
        omega
      have hle := H.le
      have hgl := H.lt
      have HVV := Lib.hid (fun W (hW : Wr B g W _) => wview B g _ W hW v hvok hLN)
      obtain ⟨xn, xe, xr, xm⟩ := v
      have c0 := hcw 0 _ rfl
      have c1 := hcw 1 _ rfl
      have c2 := hcw 2 _ rfl
      have c3 := hcw 3 _ rfl
      simp only [Nat.add_zero] at c0 c1 c2 c3
      clear hcell hcw hS hv hvok hLN
      go_wp2_with fail
      clear c0 c1 c2 c3
      refine (HVV.out _ (H.later ((Grw.refl wr).alloc _).below)).mono ?_
      rintro e w3 (⟨hc, rfl, H3, K3⟩ | ⟨hc, rfl, K3⟩)
      case inr =>
        have he := HB.out hc
        exact ⟨rfl, .inr ⟨by rw [HER2.out, he]; exact hc, by rw [HER2.out, he], (K.trans (wrote_alloc hle _)).trans K3⟩⟩
      have hS2 := HSt.out hc
      have K4 := (K.trans (wrote_alloc hle _)).trans K3
      clear hc K3
      go_wp2_with fail
      go_roundw
      case rel => exact ⟨k + 1, by omega, by go_num, by rw [HP.out, ← List.append_assoc]; exact H3, K4, hS2⟩
      case measure => simp [intOf]; omega
    · obtain rfl : k = n := by omega
      have HD := Lib.hid (hS.done (by rw [HLEN.out]; exact Nat.le_refl _))
      have HT := Lib.hid (show L.take k = L from List.take_of_length_le (by rw [HLEN.out]; exact Nat.le_refl _))
      clear hS
      go_wp2
      go_end0
      exact .inl ⟨by rw [HER2.out]; exact HD.out, rfl, by (rw [HPR.out, HLEN.out]; rw [HT.out] at H; simpa only [List.append_assoc] using H), K⟩
end Go.Proofs.Ytblefbjmjhgkkaa
