/- A hold of the law's own; awake. -/
import Derived.Test.YtafenlacacghoaaHdAbs
set_option linter.unusedVariables false
set_option linter.unusedSimpArgs false
namespace Go.Proofs.Ytafenlacacghoaa
open Go.RowKit Go.Sort

/-- A hold that was made since w. -/
structure OwnH (w wr : World) (g N : Nat) (S : Hs) : Prop where
  ex : ∃ F, HRep wr F g N S ∧ ∀ k, F k → w.heap.size ≤ k
  bel : Below w.heap.size w wr
section
variable {w wr : World} {g N : Nat} {S : Hs}
theorem OwnH.later {w' : World} (h : OwnH w wr g N S) (hb : Below wr.heap.size wr w') : OwnH w w' g N S := by
  obtain ⟨F, h1, h2⟩ := h.ex
  exact ⟨⟨F, h1.below hb, h2⟩, h.bel.trans (hb.mono h.bel.size)⟩
theorem OwnH.lt (h : OwnH w wr g N S) : g < wr.heap.size ∧ w.heap.size ≤ g := by
  obtain ⟨F, h1, h2⟩ := h.ex
  exact ⟨h1.lim g h1.fg, h2 g h1.fg⟩
theorem OwnH.le {M : Nat} (h : OwnH w wr g N S) (hm : N ≤ M) : OwnH w wr g M S := by
  obtain ⟨F, h1, h2⟩ := h.ex
  exact ⟨⟨F, h1.le hm, h2⟩, h.bel⟩
theorem oh_put (h : OwnH w wr g N S) (hN : N ≤ 999) (m : Mg) (q0 : 0 ≤ m.q) (q1 : m.q < 4294967296) (hd : DpIn wr m) (hdl : m.dl ≤ 1048576) :
    Calls Try.prog 12 #[.pointer (some ⟨g, 0, none⟩), valG m] wr fun e w' => e = .returned (.int .i64 (putCode S m)) ∧ OwnH w w' g (N + 1) (putS S m) := by
  obtain ⟨F, h1, h2⟩ := h.ex
  refine (hs_put h1 hN m q0 q1 hd hdl).mono fun e w' hs => ⟨hs.1, ⟨_, hs.2.1, fun k hk => ?_⟩, ?_⟩
  · rcases hk with hk | hk
    · exact h2 k hk
    · have := h.bel.size; omega
  · exact h.bel.trans (hs.2.2.below h.bel.size h2)
theorem oh_drop (h : OwnH w wr g N S) (hN : N ≤ 1000) (p : Int) (upto : Nat) (hu : upto < 4294967296) :
    Calls Try.prog 10 #[.pointer (some ⟨g, 0, none⟩), .int .i64 p, .int .u32 (upto : Int)] wr fun e w' => e = .returned (.tuple #[]) ∧ OwnH w w' g N (dropS S p upto) := by
  obtain ⟨F, h1, h2⟩ := h.ex
  refine (hs_drop h1 hN p upto hu).mono fun e w' hs => ⟨hs.1, ⟨_, hs.2.1, h2⟩, ?_⟩
  exact h.bel.trans (hs.2.2.below h.bel.size h2)
theorem oh_low (h : OwnH w wr g N S) (p : Int) : Calls Try.prog 26 #[.pointer (some ⟨g, 0, none⟩), .int .i64 p] wr fun e w' => e = .returned (.int .u32 (onP 0 S.lo p : Nat)) ∧ wr = w' := by
  obtain ⟨F, h1, h2⟩ := h.ex
  exact hs_low h1 p
theorem oh_count (h : OwnH w wr g N S) (hN : N ≤ 1000) (p : Int) : Calls Try.prog 18 #[.pointer (some ⟨g, 0, none⟩), .int .i64 p] wr fun e w' => e = .returned (.int .u32 (onP 0 S.cnt p : Nat)) ∧ wr = w' := by
  obtain ⟨F, h1, h2⟩ := h.ex
  exact hs_count h1 hN p
theorem oh_get (h : OwnH w wr g N S) (hN : N ≤ 1000) (p : Int) (seq : Nat) (hq : seq < 4294967296) :
    Calls Try.prog 15 #[.pointer (some ⟨g, 0, none⟩), .int .i64 p, .int .u32 (seq : Int)] wr (GetSaid wr (getX (onP 0 S.lo p) (onP [] S.R p) seq)) := by
  obtain ⟨F, h1, h2⟩ := h.ex
  exact hs_get h1 hN p seq hq
theorem oh_from (h : OwnH w wr g N S) (hN : N ≤ 1000) (p : Int) (seq : Nat) (hq : seq < 4294967296) (most : Int) (m0 : -9223372036854775808 ≤ most) (m1 : most ≤ 9223372036854775807) :
    Calls Try.prog 20 #[.pointer (some ⟨g, 0, none⟩), .int .i64 p, .int .u32 (seq : Int), .int .i64 most] wr (Hands wr (fromX (onP 0 S.lo p) (onP [] S.R p) seq most)) := by
  obtain ⟨F, h1, h2⟩ := h.ex
  exact hs_from h1 hN p seq hq most m0 m1
theorem oh_above (h : OwnH w wr g N S) (hN : N ≤ 1000) (kn kp : Int) :
    Calls Try.prog 21 #[.pointer (some ⟨g, 0, none⟩), .agg #[.int .u64 kn, .int .i64 kp]] wr (AboveSaid wr (catF S.R ⟨kn, kp⟩ 64)) := by
  obtain ⟨F, h1, h2⟩ := h.ex
  exact hs_above h1 hN ⟨kn, kp⟩
theorem oh_vec (h : OwnH w wr g N S) (hN : N ≤ 1000) (n : Int) (n0 : -9223372036854775808 ≤ n) (n1 : n ≤ 9223372036854775807) :
    Calls Try.prog 25 #[.pointer (some ⟨g, 0, none⟩), .int .i64 n] wr (VecSaid wr (vecN n) S.cnt) := by
  obtain ⟨F, h1, h2⟩ := h.ex
  exact hs_vec h1 hN n n0 n1
end
theorem oh_new (w wr : World) (hb : Below w.heap.size w wr) : Calls Try.prog 9 #[] wr fun e w' => e = .returned (.pointer (some ⟨wr.heap.size, 0, none⟩)) ∧ OwnH w w' wr.heap.size 0 hs0 :=
  (hs_new wr).mono fun e w' hs => ⟨hs.1, ⟨_, hs.2.1, fun k hk => by subst hk; exact hb.size⟩, hb.trans (hs.2.2.mono hb.size)⟩

def am1 (b : Nat) : Mg := ⟨2, 1, 5, 0, some ⟨b, 0, none⟩, 1, 1, [1], { data := #[] }⟩
def am2 : Mg := ⟨2, 3, 0, 0, none, 0, 0, [], { data := #[] }⟩
def aS1 : Hs := putS hs0 (am1 0)
theorem aput1 (b : Nat) : putS hs0 (am1 b) = aS1 ∧ putCode hs0 (am1 b) = 0 := ⟨rfl, rfl⟩
theorem aput2 : putS aS1 am2 = aS1 ∧ putCode aS1 am2 = 13 := ⟨rfl, rfl⟩
def aS2 : Hs := dropS aS1 2 1
theorem aget1 : getX (onP 0 aS1.lo 2) (onP [] aS1.R 2) 1 = some (strip (am1 0)) := rfl
theorem aget2 : getX (onP 0 aS2.lo 2) (onP [] aS2.R 2) 1 = none := rfl
theorem acat : (catF aS1.R ⟨4, 0⟩ 64).length = 1 := by decide +kernel
theorem alow : onP 0 aS2.lo 2 = 1 := rfl
theorem acnt : onP 0 aS2.cnt 2 = 1 := rfl
theorem avec : vecN 3 = 3 := rfl
set_option maxHeartbeats 4000000 in
set_option maxRecDepth 100000 in
theorem hawake (w : World) : Calls Try.prog 7 #[] w fun e w' => e = .returned (.bool true) ∧ Below w.heap.size w w' := by
  have P0 := oh_new w w (Below.refl _ _)
  go_enter Try.func7, Try.ntmps7
  go_wp2_with fail
  refine P0.mono ?_
  rintro e w1 ⟨rfl, H1⟩
  clear P0
  have LB := ((Grw.refl w1).alloc (.cells #[.int .u32 1] 23)).below
  have P1 := oh_put (H1.later LB) (by decide) (am1 w1.heap.size) (show (0 : Int) ≤ 1 by decide) (show (1 : Int) < 4294967296 by decide) ⟨rfl, fun _ => ⟨w1.heap.size, 0, rfl, fun i x hx c v hv => by
    have hi : i < 1 := (List.getElem?_eq_some_iff.1 hx).1
    obtain rfl : i = 0 := by omega
    cases hx
    have hc : c < 1 := (List.getElem?_eq_some_iff.1 hv).1
    obtain rfl : c = 0 := by omega
    cases hv
    simp⟩⟩ (show 1 ≤ 1048576 by decide)
  rw [(aput1 _).1, (aput1 _).2] at P1
  unfold am1 valG at P1
  simp only [encG] at P1
  clear H1 LB
  go_wp2_with fail
  refine P1.mono ?_
  rintro e w2 ⟨rfl, H2⟩
  have P2 := oh_put H2 (by decide) am2 (by decide) (by decide) ⟨rfl, fun h => absurd h (Nat.lt_irrefl 0)⟩ (by decide)
  rw [aput2.1, aput2.2] at P2
  unfold am2 valG at P2
  simp only [encG] at P2
  clear P1 H2
  go_wp2_with fail
  refine P2.mono ?_
  rintro e w3 ⟨rfl, H3⟩
  obtain ⟨F, h3, hF⟩ := H3.ex
  have hl3 := h3.lim
  have P3 := hs_get h3 (by decide) 2 1 (by decide)
  rw [aget1] at P3
  have HF := Lib.hid (And.intro hF hl3)
  have HB3 := Lib.hid H3.bel
  clear P2 H3 hF hl3
  have HR3 := Lib.hid h3
  clear h3
  go_wp2_with fail
  refine P3.mono ?_
  rintro e w4 hs
  cases hs with
  | yes m x w' k1 k2 k3 =>
    have hs5 : x.s = 5 := strip_s k1
    have L4 := ((Grw.refl w4).alloc (.cells #[.int .i64 0, .int .u32 0, .int .u64 0, .int .i64 0, .slice none 0 0, .string { data := #[] }] 37)).below
    have L5 := belowRow10 L4 w4.heap.size (Nat.le_refl _) (encG x).toArray
    have h5 := (HR3.out.below k3).below L5
    have HM := Lib.hid (MgB.new w4 zeroG)
    have HM5 := Lib.hid (show MgB ((w4.alloc (.cells #[.int .i64 0, .int .u32 0, .int .u64 0, .int .i64 0, .slice none 0 0, .string { data := #[] }] 37)).setRow w4.heap.size (encG x).toArray) w4.heap.size x from (MgB.new w4 zeroG).row x)
    have HB5 := Lib.hid (HB3.out.trans ((k3.trans (L5.mono k3.size)).mono HB3.out.size))
    have hmb : w3.heap.size ≤ w4.heap.size := k3.size
    have P4 := hs_above h5 (by decide) ⟨4, 0⟩
    have HR5 := Lib.hid h5
    clear k1 k2 k3 L4 L5 h5 HR3 HB3 P3
    simp only at P4
    go_upto_region 7 with (refine store_mg rfl (.tmp 4) (.tmp 22) rfl w4.heap.size x rfl rfl HM.out ?_)
    clear HM
    generalize (w4.alloc (.cells #[.int .i64 0, .int .u32 0, .int .u64 0, .int .i64 0, .slice none 0 0, .string { data := #[] }] 37)).setRow w4.heap.size (encG x).toArray = W5 at *
    generalize w4.heap.size = mb at *
    go_wp2_with fail
    refine P4.mono ?_
    rintro e w6 ⟨⟨sa, sn, sc⟩, Y, rfl, hO, hS, hB⟩
    have hsn : sn = 1 := by
      have h1 : Y.length = sn := hO.slot.len
      have h2 := hS.fil.length
      rw [List.length_map, List.length_map, acat] at h2
      omega
    subst hsn
    have h6 := HR5.out.below hB
    have HM6 := Lib.hid (HM5.out.later hB)
    have HB6 := Lib.hid (HB5.out.trans (hB.mono HB5.out.size))
    have P5 := hs_drop h6 (by decide) 2 1 (by decide)
    have hnm : ¬ F mb := fun e => by have := HF.out.2 mb e; omega
    clear P4 hO hS hB HR5 HM5 HB5 h6
    go_wp2_with fail
    refine P5.mono ?_
    rintro e w7 ⟨rfl, h7, c7⟩
    have HM7 : Hid (MgB w7 mb x) := Lib.hid ((c7.block mb HM6.out.lt hnm).trans HM6.out)
    have HB7 := Lib.hid (HB6.out.trans (c7.below HB6.out.size HF.out.1))
    have P6 := hs_get h7 (by decide) 2 1 (by decide)
    rw [show dropS aS1 2 1 = aS2 from rfl] at h7 P6
    rw [aget2] at P6
    have HR7 := Lib.hid h7
    clear P5 c7 h7 HM6 HB6
    go_wp2_with fail
    refine P6.mono ?_
    rintro e w8 hs
    cases hs with
    | no w' hB8 =>
      have L8 := ((Grw.refl w8).alloc (.cells #[.int .i64 0, .int .u32 0, .int .u64 0, .int .i64 0, .slice none 0 0, .string { data := #[] }] 37)).below
      have L9 := hB8.trans ((belowRow10 L8 w8.heap.size (Nat.le_refl _) (encG zeroG).toArray).mono hB8.size)
      have HM := Lib.hid (MgB.new w8 zeroG)
      have h9 := HR7.out.below L9
      have HM9 := HM7.out.later L9
      have HB9 := Lib.hid (HB7.out.trans (L9.mono HB7.out.size))
      have c2 := HM9.own.at_ 2 _ rfl
      rw [hs5] at c2
      have Q1 := hs_low h9 2
      have Q2 := hs_count h9 (by decide) 2
      have Q3 := hs_vec h9 (by decide) 3 (by decide) (by decide)
      rw [alow] at Q1
      rw [acnt] at Q2
      rw [avec] at Q3
      clear L8 L9 hB8 h9 HM7 HB7 HR7 HM9 P6
      go_upto_region 10 with (refine store_mg rfl (.tmp 7) (.tmp 32) rfl w8.heap.size zeroG rfl rfl HM.out ?_)
      clear HM
      generalize (w8.alloc (.cells #[.int .i64 0, .int .u32 0, .int .u64 0, .int .i64 0, .slice none 0 0, .string { data := #[] }] 37)).setRow w8.heap.size (encG zeroG).toArray = W9 at *
      go_wp2_with (first | (go_at_call 26; refine Q1.mono ?_; rintro e w' ⟨rfl, rfl⟩) | (go_at_call 18; refine Q2.mono ?_; rintro e w' ⟨rfl, rfl⟩) | (go_at_call 25; refine Q3.mono ?_; rintro e wv ⟨rfl, _, hBv⟩))
      have HB10 := Lib.hid (HB9.out.trans (hBv.mono HB9.out.size))
      clear Q1 Q2 Q3 hBv
      go_ret
      exact ⟨rfl, HB10.out⟩
end Go.Proofs.Ytafenlacacghoaa
