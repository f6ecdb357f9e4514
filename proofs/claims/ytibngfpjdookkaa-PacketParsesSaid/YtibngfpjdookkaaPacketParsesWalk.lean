/- The walk of 'PacketParses'. (Written by wip/gen_packetparses.py.) -/
import Derived.Test.YtibngfpjdookkaaTkPs
import Derived.Test.YtibngfpjdookkaaPkAwake
import Derived.Test.YtibngfpjdookkaaPkSames
import Derived.Test.YtibngfpjdookkaaRefPrint
set_option linter.unusedVariables false
set_option linter.unusedSimpArgs false
namespace Go.Proofs.Ytibngfpjdookkaa
open Go.RowKit Go.Sort

theorem parsed_small {s : ByteArray} {q : Pk} (h : parsedOf s = .ok q) : Small q := by
  unfold parsedOf at h
  split at h
  · cases h
  · obtain ⟨_, _, _, ho, _, hc⟩ := put_parse h
    exact ok_small ho hc
/-- The two texts. -/
def BothB (W : World) (g : Nat) (s z : ByteArray) : Prop := Own W g 25 #[.string s, .string z]
theorem BothB.own {W : World} {g : Nat} {s z : ByteArray} (h : BothB W g s z) : Own W g 25 #[.string s, .string z] := h
theorem BothB.later {W W' : World} {g : Nat} {s z : ByteArray} (h : BothB W g s z) (hb : Below W.heap.size W W') : BothB W' g s z := h.own.below hb h.own.lt
theorem BothB.lt {W : World} {g : Nat} {s z : ByteArray} (h : BothB W g s z) : g < W.heap.size := h.own.lt

set_option maxHeartbeats 8000000 in
set_option maxRecDepth 100000 in
theorem full_PacketParses (s : ByteArray) (h1 : s.size ≤ 40000) (kind frm : Int) (z : ByteArray) (fc : Int) (hz : z.size ≤ 1099511627776) (w : World)
    (hp : ∀ W, Calls Try.prog 8 #[.int .i64 kind, .int .i64 frm, .int .i64 0, .string s] W fun e w' => e = .returned (.tuple #[.string z, .int .i64 fc]) ∧ Below W.heap.size W w') :
    Calls Try.prog 3 #[.string s, .int .i64 kind, .int .i64 frm] w fun e w' => e = .returned (.bool true) ∧ Below w.heap.size w w' := by
  have hs : s.size ≤ 1099511627776 := by omega
  have ht : ¬ (40000 : Int) < (s.size : Int) := by omega
  go_enter Try.func3, Try.ntmps3
  go_wp2_with fail
  refine (pkAwake_any _).mono ?_
  rintro e w1 ⟨rfl, L1⟩
  go_wp2_with fail
  refine (hp _).mono ?_
  rintro e w2 ⟨rfl, L2⟩
  have L := L1.trans (L2.mono L1.size)
  clear L1 L2 hp
  go_upto_region 7 with fail
  have BB : BothB (w2.alloc (.cells #[.string s, .string z] 25)) w2.heap.size s z := Own.new w2 _ _
  have L3 := L.trans (((Grw.refl w2).alloc (.cells #[.string s, .string z] 25)).below.mono L.size)
  clear L
  generalize w2.alloc (.cells #[.string s, .string z] 25) = W0 at *
  generalize w2.heap.size = gB at *
  go_wp2
  go_loopw [10] (fun i wr => (i = .int .i64 0 ∨ i = .int .i64 1 ∨ i = .int .i64 2) ∧ BothB wr gB s z ∧ Below w.heap.size w wr) (fun i _ => 2 - (intOf i).toNat)
  case atStart => exact ⟨.inl rfl, BB, L3⟩
  case round =>
    clear BB L3
    obtain ⟨hi, BB, L⟩ := hrel
    have b0 := BB.own.at_ 0 _ rfl
    have b1 := BB.own.at_ 1 _ rfl
    rcases hi with rfl | rfl | rfl
    · 
      go_wp2_with fail
      refine (pparse_any s hs _).mono ?_
      clear b0 b1
      rintro e w3 ⟨L3, ⟨q, T, vd, vg, vx, hq, rfl, O3⟩ | ⟨c, hc, hq, rfl⟩⟩
      case inl =>
        have L03 := L.trans (L3.mono L.size)
        have B3 := BB.later L3
        go_upto_region 12 with (refine store_packet (p := q) (T := T) (vd := vd) (vg := vg) (vx := vx) rfl (.tmp 11) (.tmp 45) rfl w3.heap.size rfl rfl (boxed_new w3) ?_)
        rw [boxed_is]
        have OW := boxed_own w3 q T vd vg vx
        have A4 := O3.at_.below (boxed_below w3 q T vd vg vx)
        have BW := L03.trans ((boxed_below w3 q T vd vg vx).mono L03.size)
        have B4 := B3.later (boxed_below w3 q T vd vg vx)
        generalize boxed w3 q T vd vg vx = W4 at *
        generalize w3.heap.size = g1 at *
        clear L L3 L03 BB B3 O3
        have b0 := B4.own.at_ 0 _ rfl
        have b1 := B4.own.at_ 1 _ rfl
        go_wp2_with fail
        refine (tparse_any s hs _).mono ?_
        clear b0 b1
        rintro e w5 ⟨L5, ⟨q', T', ud, ug, ux, hq', rfl, O5⟩ | ⟨c, hc, hq', rfl⟩⟩
        case inr => rw [hq] at hq'; cases hq'
        obtain rfl : q = q' := by rw [hq] at hq'; injection hq'
        have L05 := BW.trans (L5.mono BW.size)
        have B5 := B4.later L5
        have OW5 := OW.below L5 OW.lt
        have A5 := A4.below L5
        go_upto_region 13 with (refine store_packet (p := q) (T := T') (vd := ud) (vg := ug) (vx := ux) rfl (.tmp 13) (.tmp 52) rfl w5.heap.size rfl rfl (boxed_new w5) ?_)
        rw [boxed_is]
        have OV := boxed_own w5 q T' ud ug ux
        have A6 := A5.below (boxed_below w5 q T' ud ug ux)
        have A7 := O5.at_.below (boxed_below w5 q T' ud ug ux)
        have OW6 := OW5.below (boxed_below w5 q T' ud ug ux) OW5.lt
        have BV := L05.trans ((boxed_below w5 q T' ud ug ux).mono L05.size)
        have B6 := B5.later (boxed_below w5 q T' ud ug ux)
        generalize boxed w5 q T' ud ug ux = W6 at *
        generalize w5.heap.size = g2 at *
        have hsm := parsed_small hq
        clear OW BW B4 L5 L05 B5 OW5 A5 A4 O5 hq hq'
        have HS := Lib.hid (pk_same W6 q T T' vd vg vx ud ug ux A6 A7 hsm.deps hsm.got hsm.xs hsm.cnt)
        have HB := Lib.hid BV
        have HC := Lib.hid B6
        clear A6 A7 hsm BV B6
        go_wp2_with (first | (refine load_packet rfl (.tmp 11) rfl g1 rfl OW6 ?_) | (refine load_packet rfl (.tmp 13) rfl g2 rfl OV ?_) | (go_at_call 11; refine HS.out.mono ?_; rintro e w7 ⟨rfl, G7⟩))
        go_roundw
        case rel => exact ⟨.inr (.inl rfl), HC.out.later G7.below, HB.out.trans (G7.below.mono HB.out.size)⟩
        case measure => simp [intOf]
      case inr =>
        have L03 := L.trans (L3.mono L.size)
        have B3 := BB.later L3
        go_upto_region 12 with (refine store_packet (p := zeroP) (T := { data := #[] }) (vd := Vc.nil) (vg := Vc.nil) (vx := Vc.nil) rfl (.tmp 11) (.tmp 45) rfl w3.heap.size rfl rfl (boxed_new w3) ?_)
        rw [boxed_is]
        have OW := boxed_own w3 zeroP { data := #[] } Vc.nil Vc.nil Vc.nil
        have BW := L03.trans ((boxed_below w3 zeroP { data := #[] } Vc.nil Vc.nil Vc.nil).mono L03.size)
        have B4 := B3.later (boxed_below w3 zeroP { data := #[] } Vc.nil Vc.nil Vc.nil)
        generalize boxed w3 zeroP { data := #[] } Vc.nil Vc.nil Vc.nil = W4 at *
        generalize w3.heap.size = g1 at *
        clear L L3 L03 BB B3
        have b0 := B4.own.at_ 0 _ rfl
        have b1 := B4.own.at_ 1 _ rfl
        go_wp2_with fail
        refine (tparse_any s hs _).mono ?_
        clear b0 b1
        rintro e w5 ⟨L5, ⟨q', T', ud, ug, ux, hq', rfl, O5⟩ | ⟨c', hc', hq', rfl⟩⟩
        case inl => rw [hq] at hq'; cases hq'
        obtain rfl : c = c' := by rw [hq] at hq'; injection hq'
        have L05 := BW.trans (L5.mono BW.size)
        have B5 := B4.later L5
        have OW5 := OW.below L5 OW.lt
        go_upto_region 13 with (refine store_packet (p := zeroP) (T := { data := #[] }) (vd := Vc.nil) (vg := Vc.nil) (vx := Vc.nil) rfl (.tmp 13) (.tmp 52) rfl w5.heap.size rfl rfl (boxed_new w5) ?_)
        rw [boxed_is]
        have OV := boxed_own w5 zeroP { data := #[] } Vc.nil Vc.nil Vc.nil
        have OW6 := OW5.below (boxed_below w5 zeroP { data := #[] } Vc.nil Vc.nil Vc.nil) OW5.lt
        have BV := L05.trans ((boxed_below w5 zeroP { data := #[] } Vc.nil Vc.nil Vc.nil).mono L05.size)
        have B6 := B5.later (boxed_below w5 zeroP { data := #[] } Vc.nil Vc.nil Vc.nil)
        generalize boxed w5 zeroP { data := #[] } Vc.nil Vc.nil Vc.nil = W6 at *
        generalize w5.heap.size = g2 at *
        clear OW BW B4 L5 L05 B5 OW5 hq hq' hc hc'
        have HS := Lib.hid (pk_same W6 zeroP { data := #[] } { data := #[] } Vc.nil Vc.nil Vc.nil Vc.nil Vc.nil Vc.nil (PkAt.zero W6 0 0 0 ⟨0, 0⟩) (PkAt.zero W6 0 0 0 ⟨0, 0⟩) (by decide) (by decide) (by decide) (fun x hx => absurd hx (by simp [zeroP, baseP])))
        have HB := Lib.hid BV
        have HC := Lib.hid B6
        clear BV B6
        go_wp2_with (first | (refine load_packet rfl (.tmp 11) rfl g1 rfl OW6 ?_) | (refine load_packet rfl (.tmp 13) rfl g2 rfl OV ?_) | (go_at_call 11; refine HS.out.mono ?_; rintro e w7 ⟨rfl, G7⟩))
        go_roundw
        case rel => exact ⟨.inr (.inl rfl), HC.out.later G7.below, HB.out.trans (G7.below.mono HB.out.size)⟩
        case measure => simp [intOf]
    · by_cases hfc : fc = 0
      · subst hfc
        go_wp2_with fail
        refine (pparse_any z hz _).mono ?_
        clear b0 b1
        rintro e w3 ⟨L3, ⟨q, T, vd, vg, vx, hq, rfl, O3⟩ | ⟨c, hc, hq, rfl⟩⟩
        case inl =>
          have L03 := L.trans (L3.mono L.size)
          have B3 := BB.later L3
          go_upto_region 12 with (refine store_packet (p := q) (T := T) (vd := vd) (vg := vg) (vx := vx) rfl (.tmp 11) (.tmp 45) rfl w3.heap.size rfl rfl (boxed_new w3) ?_)
          rw [boxed_is]
          have OW := boxed_own w3 q T vd vg vx
          have A4 := O3.at_.below (boxed_below w3 q T vd vg vx)
          have BW := L03.trans ((boxed_below w3 q T vd vg vx).mono L03.size)
          have B4 := B3.later (boxed_below w3 q T vd vg vx)
          generalize boxed w3 q T vd vg vx = W4 at *
          generalize w3.heap.size = g1 at *
          clear L L3 L03 BB B3 O3
          have b0 := B4.own.at_ 0 _ rfl
          have b1 := B4.own.at_ 1 _ rfl
          go_wp2_with fail
          refine (tparse_any z hz _).mono ?_
          clear b0 b1
          rintro e w5 ⟨L5, ⟨q', T', ud, ug, ux, hq', rfl, O5⟩ | ⟨c, hc, hq', rfl⟩⟩
          case inr => rw [hq] at hq'; cases hq'
          obtain rfl : q = q' := by rw [hq] at hq'; injection hq'
          have L05 := BW.trans (L5.mono BW.size)
          have B5 := B4.later L5
          have OW5 := OW.below L5 OW.lt
          have A5 := A4.below L5
          go_upto_region 13 with (refine store_packet (p := q) (T := T') (vd := ud) (vg := ug) (vx := ux) rfl (.tmp 13) (.tmp 52) rfl w5.heap.size rfl rfl (boxed_new w5) ?_)
          rw [boxed_is]
          have OV := boxed_own w5 q T' ud ug ux
          have A6 := A5.below (boxed_below w5 q T' ud ug ux)
          have A7 := O5.at_.below (boxed_below w5 q T' ud ug ux)
          have OW6 := OW5.below (boxed_below w5 q T' ud ug ux) OW5.lt
          have BV := L05.trans ((boxed_below w5 q T' ud ug ux).mono L05.size)
          have B6 := B5.later (boxed_below w5 q T' ud ug ux)
          generalize boxed w5 q T' ud ug ux = W6 at *
          generalize w5.heap.size = g2 at *
          have hsm := parsed_small hq
          clear OW BW B4 L5 L05 B5 OW5 A5 A4 O5 hq hq'
          have HS := Lib.hid (pk_same W6 q T T' vd vg vx ud ug ux A6 A7 hsm.deps hsm.got hsm.xs hsm.cnt)
          have HB := Lib.hid BV
          have HC := Lib.hid B6
          clear A6 A7 hsm BV B6
          go_wp2_with (first | (refine load_packet rfl (.tmp 11) rfl g1 rfl OW6 ?_) | (refine load_packet rfl (.tmp 13) rfl g2 rfl OV ?_) | (go_at_call 11; refine HS.out.mono ?_; rintro e w7 ⟨rfl, G7⟩))
          go_roundw
          case rel => exact ⟨.inr (.inr rfl), HC.out.later G7.below, HB.out.trans (G7.below.mono HB.out.size)⟩
          case measure => simp [intOf]
        case inr =>
          have L03 := L.trans (L3.mono L.size)
          have B3 := BB.later L3
          go_upto_region 12 with (refine store_packet (p := zeroP) (T := { data := #[] }) (vd := Vc.nil) (vg := Vc.nil) (vx := Vc.nil) rfl (.tmp 11) (.tmp 45) rfl w3.heap.size rfl rfl (boxed_new w3) ?_)
          rw [boxed_is]
          have OW := boxed_own w3 zeroP { data := #[] } Vc.nil Vc.nil Vc.nil
          have BW := L03.trans ((boxed_below w3 zeroP { data := #[] } Vc.nil Vc.nil Vc.nil).mono L03.size)
          have B4 := B3.later (boxed_below w3 zeroP { data := #[] } Vc.nil Vc.nil Vc.nil)
          generalize boxed w3 zeroP { data := #[] } Vc.nil Vc.nil Vc.nil = W4 at *
          generalize w3.heap.size = g1 at *
          clear L L3 L03 BB B3
          have b0 := B4.own.at_ 0 _ rfl
          have b1 := B4.own.at_ 1 _ rfl
          go_wp2_with fail
          refine (tparse_any z hz _).mono ?_
          clear b0 b1
          rintro e w5 ⟨L5, ⟨q', T', ud, ug, ux, hq', rfl, O5⟩ | ⟨c', hc', hq', rfl⟩⟩
          case inl => rw [hq] at hq'; cases hq'
          obtain rfl : c = c' := by rw [hq] at hq'; injection hq'
          have L05 := BW.trans (L5.mono BW.size)
          have B5 := B4.later L5
          have OW5 := OW.below L5 OW.lt
          go_upto_region 13 with (refine store_packet (p := zeroP) (T := { data := #[] }) (vd := Vc.nil) (vg := Vc.nil) (vx := Vc.nil) rfl (.tmp 13) (.tmp 52) rfl w5.heap.size rfl rfl (boxed_new w5) ?_)
          rw [boxed_is]
          have OV := boxed_own w5 zeroP { data := #[] } Vc.nil Vc.nil Vc.nil
          have OW6 := OW5.below (boxed_below w5 zeroP { data := #[] } Vc.nil Vc.nil Vc.nil) OW5.lt
          have BV := L05.trans ((boxed_below w5 zeroP { data := #[] } Vc.nil Vc.nil Vc.nil).mono L05.size)
          have B6 := B5.later (boxed_below w5 zeroP { data := #[] } Vc.nil Vc.nil Vc.nil)
          generalize boxed w5 zeroP { data := #[] } Vc.nil Vc.nil Vc.nil = W6 at *
          generalize w5.heap.size = g2 at *
          clear OW BW B4 L5 L05 B5 OW5 hq hq' hc hc'
          have HS := Lib.hid (pk_same W6 zeroP { data := #[] } { data := #[] } Vc.nil Vc.nil Vc.nil Vc.nil Vc.nil Vc.nil (PkAt.zero W6 0 0 0 ⟨0, 0⟩) (PkAt.zero W6 0 0 0 ⟨0, 0⟩) (by decide) (by decide) (by decide) (fun x hx => absurd hx (by simp [zeroP, baseP])))
          have HB := Lib.hid BV
          have HC := Lib.hid B6
          clear BV B6
          go_wp2_with (first | (refine load_packet rfl (.tmp 11) rfl g1 rfl OW6 ?_) | (refine load_packet rfl (.tmp 13) rfl g2 rfl OV ?_) | (go_at_call 11; refine HS.out.mono ?_; rintro e w7 ⟨rfl, G7⟩))
          go_roundw
          case rel => exact ⟨.inr (.inr rfl), HC.out.later G7.below, HB.out.trans (G7.below.mono HB.out.size)⟩
          case measure => simp [intOf]
      · have hne : (fc != 0) = true := by rw [bne_iff_ne]; exact hfc
        clear b0 b1
        go_wp2
        go_ret
        exact ⟨rfl, L⟩
    · clear b0 b1
      go_wp2
      go_ret
      exact ⟨rfl, L⟩
set_option maxHeartbeats 4000000 in
theorem big_PacketParses (s : ByteArray) (h1 : ¬ s.size ≤ 40000) (hs : s.size ≤ maxLen) (kind frm : Int) (w : World) :
    Calls Try.prog 3 #[.string s, .int .i64 kind, .int .i64 frm] w fun e w' => e = .returned (.bool true) ∧ Below w.heap.size w w' := by
  have ht : (40000 : Int) < (s.size : Int) := by omega
  unfold maxLen at hs
  go_enter Try.func3, Try.ntmps3
  go_wp2_with fail
  refine (pkAwake_any _).mono ?_
  rintro e w1 ⟨rfl, L1⟩
  go_wp2
  go_ret
  exact ⟨rfl, L1⟩
theorem walk_PacketParses {w : World} (s : ByteArray) (hs : s.size ≤ maxLen) (kind : Int) (wk : (Lit.int .i64 kind).wf = true) (frm : Int) (wf : (Lit.int .i64 frm).wf = true) :
    Calls Try.prog 3 #[.string s, .int .i64 kind, .int .i64 frm] w fun e w' => e = .returned (.bool true) ∧ Below w.heap.size w w' := by
  by_cases h1 : s.size ≤ 40000
  · by_cases hc : fcode kind frm 0 s.size = 0
    · have hm := fcode_may hc
      obtain ⟨k, rfl⟩ := Int.eq_ofNat_of_zero_le (show 0 ≤ kind by omega)
      obtain ⟨f, rfl⟩ := Int.eq_ofNat_of_zero_le (show 0 ≤ frm by omega)
      exact full_PacketParses s h1 k f (printz k f 0 s) 0 (by rw [printz_size]; omega) w (fun W => refPrint_yes k f 0 s W hc)
    · exact full_PacketParses s h1 kind frm { data := #[] } (fcode kind frm 0 s.size) (by decide) w (fun W => (refPrint_no kind frm 0 s W _ rfl hc).mono fun e w' ⟨h, h2⟩ => ⟨h, by subst h2; exact Below.refl _ _⟩)
  · exact big_PacketParses s h1 hs kind frm w
end Go.Proofs.Ytibngfpjdookkaa
