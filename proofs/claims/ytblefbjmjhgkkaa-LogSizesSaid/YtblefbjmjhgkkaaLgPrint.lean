/- Layer 19: a stable record printed, an item printed. -/
import Derived.Test.YtblefbjmjhgkkaaLgWrItem
import Derived.Test.YtblefbjmjhgkkaaLgAns
set_option linter.unusedVariables false
set_option maxRecDepth 100000
set_option linter.unusedSimpArgs false
namespace Go.Proofs.Ytblefbjmjhgkkaa
open Go.RowKit Go.Sort

set_option maxHeartbeats 4000000 in
theorem witem_0 (B g : Nat) (l : List UInt8) (w : World) (h : Wr B g w l) (k : Int) (cs : List Value) (hcs : cs.length = 17) (hk : ¬ (1 ≤ k ∧ k ≤ 4)) (hl : l.length ≤ 1099300000000) :
    Calls Try.prog 39 #[.pointer (some ⟨g, 0, none⟩), .agg (.int .i64 k :: cs).toArray] w fun e w' => e = .panicked (pan 10) ∧ Wrote B g w w' := by
  have hle := h.le
  have hlt := h.lt
  match cs, hcs with
  | [x1, x2, x3, x4, x5, x6, x7, x8, x9, x10, x11, x12, x13, x14, x15, x16, x17], _ =>
    have O0 := Own.new w 43 #[.int .i64 k, x1, x2, x3, x4, x5, x6, x7, x8, x9, x10, x11, x12, x13, x14, x15, x16, x17]
    have H0 := h.later ((Grw.refl w).alloc (.cells #[.int .i64 k, x1, x2, x3, x4, x5, x6, x7, x8, x9, x10, x11, x12, x13, x14, x15, x16, x17] 43)).below
    have K0 := wrote_alloc (B := B) (g := g) hle (.cells #[.int .i64 k, x1, x2, x3, x4, x5, x6, x7, x8, x9, x10, x11, x12, x13, x14, x15, x16, x17] 43)
    have c0 := O0.at_ 0 _ rfl
    clear h
    have HK : Hid (¬ (1 ≤ k ∧ k ≤ ((4 : Nat) : Int))) := Lib.hid (by intro h; exact hk ⟨h.1, by have := h.2; omega⟩)
    generalize hw0 : w.alloc (.cells #[.int .i64 k, x1, x2, x3, x4, x5, x6, x7, x8, x9, x10, x11, x12, x13, x14, x15, x16, x17] 43) = W0 at *
    clear hk
    go_enter Try.func39, Try.ntmps39
    go_upto_region 1 with fail
    try rw [hw0]
    clear hw0
    go_wp2_with fail
    refine (wsmall B g _ _ H0 k 1 1 4 10 1 (by decide) (by decide) (by decide) (by decide) (by decide) (by decide) (by omega)).mono ?_
    rintro e w1 (⟨hc, rfl, H1, K1⟩ | ⟨hc, rfl, K1⟩)
    · exact absurd hc (by rw [if_neg HK.out]; decide)
    rw [if_neg HK.out]
    exact ⟨rfl, rfl, K0.trans K1⟩
/-- An item of whatever kind. -/
theorem witem (B g : Nat) (l : List UInt8) (w0 w : World) (h : Wr B g w l) (hu : Und B w0 w) (x : Itm) (T : ByteArray) (a : Option Addr) (pk pc : Nat)
    (hT : T.data.toList = x.data) (hTs : T.size ≤ 1000000) (hok : x.ok) (hx : RcIn w0 ⟨x.r, a, pk, pc⟩) (hxk : pk ≤ 1099511627776) (hl : l.length ≤ 1099300000000) :
    Calls Try.prog 39 #[.pointer (some ⟨g, 0, none⟩), .agg (encI x T a pk pc).toArray] w (WP (errI x) (putI x) B g l w) := by
  obtain ⟨k, xd, xi, xh, xa, xb, ⟨⟨rn, re, rr, rm⟩, L⟩, ⟨vn, ve, vr, vm⟩, xn, xx, xt⟩ := x
  by_cases hk : 1 ≤ k ∧ k ≤ 4
  · obtain rfl | rfl | rfl | rfl : k = 1 ∨ k = 2 ∨ k = 3 ∨ k = 4 := by omega
    · exact witem_1 B g l w0 w h hu xd T xi xh xa xb rn re rr rm L a pk pc vn ve vr vm xn xx xt hT hTs hok hx hxk hl
    · exact witem_2 B g l w0 w h hu xd T xi xh xa xb rn re rr rm L a pk pc vn ve vr vm xn xx xt hT hTs hok hx hxk hl
    · exact witem_3 B g l w0 w h hu xd T xi xh xa xb rn re rr rm L a pk pc vn ve vr vm xn xx xt hT hTs hok hx hxk hl
    · exact witem_4 B g l w0 w h hu xd T xi xh xa xb rn re rr rm L a pk pc vn ve vr vm xn xx xt hT hTs hok hx hxk hl
  · have he : errI ⟨k, xd, xi, xh, xa, xb, ⟨⟨rn, re, rr, rm⟩, L⟩, ⟨vn, ve, vr, vm⟩, xn, xx, xt⟩ = 10 := by
      unfold errI
      rw [if_neg (by show ¬ k = 1; omega), if_neg (by show ¬ k = 2; omega), if_neg (by show ¬ k = 3; omega), if_neg (by show ¬ k = 4; omega)]
    refine (witem_0 B g l w h k _ rfl hk hl).mono ?_
    rintro e w' ⟨rfl, K⟩
    rw [he]
    exact .inr ⟨by decide, rfl, K⟩
/-- What a closure that prints does. -/
def CW (c : Nat) (put : List UInt8) (w : World) (e : Ending) (w' : World) : Prop :=
  Below w.heap.size w w' ∧ ((c = 0 ∧ e = .returned (.string ⟨put.toArray⟩)) ∨ (c ≠ 0 ∧ e = .panicked (pan c)))
theorem putS_ne (x : Stb) : putS x ≠ [] := by intro e; have := putS_length x; rw [e] at this; simp at this; omega
theorem putI_ne (x : Itm) : putI x ≠ [] := by unfold putI; intro e; have := congrArg List.length e; rw [List.length_append, pb_length] at this; simp at this
set_option maxHeartbeats 4000000 in
theorem print1S (g0 : Nat) (w : World) (x : Stb) (a : Option Addr) (k c : Nat) (hc : Own w g0 33 (encS x a k c).toArray) (hx : RcIn w ⟨x.r, a, k, c⟩) (hep : x.ep < 18446744073709551616) (hinc : x.inc < 4294967296) (hxk : k ≤ 1099511627776) :
    Calls Try.prog 35 #[.pointer (some ⟨g0, 0, none⟩)] w (CW (errRec x.r) (putS x) w) := by
  have HNE := Lib.hid (putS_ne x)
  have W1 := Wr.new w.heap.size w (Nat.le_refl _)
  have G1 := (Grw.refl w).alloc (.cells #[.pointer none, .slice none 0 0] 88)
  have U1 : Und w.heap.size w (w.alloc (.cells #[.pointer none, .slice none 0 0] 88)) := ⟨rfl, G1.below⟩
  have S1 := hc.below G1.below hc.lt
  have HWS := wstable w.heap.size w.heap.size [] w _ W1 U1 x a k c hx hep hinc hxk (by simp)
  generalize errRec x.r = er at *
  clear W1 U1 hx G1 hc
  go_enter Try.func35, Try.ntmps35
  go_upto_region 2 with fail
  go_wp2_with (refine load_stable rfl (.tmp 0) rfl g0 rfl S1 ?_)
  refine HWS.mono ?_
  rintro e w2 (⟨h0, rfl, H2, K2⟩ | ⟨h0, rfl, K2⟩)
  rotate_left
  · exact ⟨rfl, ((Grw.refl w).alloc _).below.trans K2.below, .inr ⟨h0, rfl⟩⟩
  have B2 := ((Grw.refl w).alloc (.cells #[.pointer none, .slice none 0 0] 88)).below.trans K2.below
  have HS := wstring w.heap.size w.heap.size _ w2 H2 (by rw [List.nil_append]; exact HNE.out)
  rw [List.nil_append] at HS
  have H0 := Lib.hid h0
  generalize putS x = ps at *
  clear H2 K2 HWS S1 h0
  go_wp2_with fail
  refine HS.mono ?_
  rintro e w3 ⟨rfl, L3⟩
  have B3 := Lib.hid (B2.trans L3)
  clear HS B2 L3
  go_wp2
  go_ret
  exact ⟨B3.out, .inl ⟨H0.out, rfl⟩⟩
set_option maxHeartbeats 4000000 in
theorem print1I (g0 : Nat) (w : World) (x : Itm) (T : ByteArray) (a : Option Addr) (k c : Nat) (hc : Own w g0 43 (encI x T a k c).toArray) (hT : T.data.toList = x.data) (hTs : T.size ≤ 1000000) (hok : x.ok) (hx : RcIn w ⟨x.r, a, k, c⟩) (hxk : k ≤ 1099511627776) :
    Calls Try.prog 38 #[.pointer (some ⟨g0, 0, none⟩)] w (CW (codeI x) (putI x) w) := by
  have HNE := Lib.hid (putI_ne x)
  have W1 := Wr.new w.heap.size w (Nat.le_refl _)
  have G1 := (Grw.refl w).alloc (.cells #[.pointer none, .slice none 0 0] 88)
  have U1 : Und w.heap.size w (w.alloc (.cells #[.pointer none, .slice none 0 0] 88)) := ⟨rfl, G1.below⟩
  have S1 := hc.below G1.below hc.lt
  have HWS := witem w.heap.size w.heap.size [] w _ W1 U1 x T a k c hT hTs hok hx hxk (by simp)
  have HCI := Lib.hid (show codeI x = orN (errI x) (if 1024 < (putI x).length then 3 else 0) from rfl)
  generalize codeI x = ci at *
  generalize errI x = er at *
  clear W1 U1 hx G1 hc
  go_enter Try.func38, Try.ntmps38
  go_upto_region 2 with fail
  go_wp2_with (refine load_item rfl (.tmp 0) rfl g0 rfl S1 ?_)
  refine HWS.mono ?_
  rintro e w2 (⟨h0, rfl, H2, K2⟩ | ⟨h0, rfl, K2⟩)
  rotate_left
  · have he : ci = er := by rw [HCI.out]; exact orN_left h0
    exact ⟨rfl, ((Grw.refl w).alloc _).below.trans K2.below, .inr ⟨by rw [he]; exact h0, by rw [he]⟩⟩
  have HC2 := Lib.hid (show ci = if 1024 < (putI x).length then 3 else 0 by rw [HCI.out]; exact orN_right h0)
  have B2 := ((Grw.refl w).alloc (.cells #[.pointer none, .slice none 0 0] 88)).below.trans K2.below
  have HL := wlen w.heap.size w.heap.size _ w2 H2
  have HS := wstring w.heap.size w.heap.size _ w2 H2 (by rw [List.nil_append]; exact HNE.out)
  rw [List.nil_append] at HS HL
  generalize putI x = ps at *
  generalize hn : ps.length = n at *
  clear H2 K2 HWS S1 h0 HCI hn
  go_wp2_with fail
  refine HL.mono ?_
  rintro e w3 ⟨rfl, rfl⟩
  by_cases hlt : 1024 < n
  · have he : ci = 3 := by rw [HC2.out]; exact if_pos hlt
    go_wp2_with fail
    refine (within_no (n : Int) 0 1024 3 _ (.inr (by omega))).mono ?_
    rintro e w4 ⟨rfl, rfl⟩
    exact ⟨rfl, B2, .inr ⟨by first | decide | (rw [he]; decide), by first | rfl | (rw [he]; rfl)⟩⟩
  have HZ := Lib.hid (show ci = 0 by rw [HC2.out]; exact if_neg hlt)
  go_wp2_with fail
  refine (within_yes (n : Int) 0 1024 3 _ (by omega) (by omega)).mono ?_
  rintro e w4 ⟨rfl, rfl⟩
  clear HL HC2 hlt
  go_wp2_with fail
  refine HS.mono ?_
  rintro e w3 ⟨rfl, L3⟩
  have B3 := Lib.hid (B2.trans L3)
  clear HS B2 L3
  go_wp2
  go_ret
  exact ⟨B3.out, .inl ⟨HZ.out, rfl⟩⟩
end Go.Proofs.Ytblefbjmjhgkkaa
