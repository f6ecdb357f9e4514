/- Two horizons beside each other. -/
import Derived.Test.YtncldnenlchpnaaHzRun
set_option linter.unusedVariables false
set_option linter.unusedSimpArgs false
namespace Go.Proofs.Ytncldnenlchpnaa
open Go.RowKit Go.Sort Go.Shelf

/-- No block of the one is one of the other. -/
structure ApartZ (g1 : Nat) (s1 : ZSl) (g2 : Nat) (s2 : ZSl) : Prop where
  g : g1 ≠ g2
  a : ∀ x, s1.a = some x → x.block ≠ g2
  b : ∀ x, s2.a = some x → x.block ≠ g1
  c : ∀ x y, s1.a = some x → s2.a = some y → x.block ≠ y.block
theorem ApartZ.swap {g1 g2 : Nat} {s1 s2 : ZSl} (h : ApartZ g1 s1 g2 s2) : ApartZ g2 s2 g1 s1 := ⟨h.g.symm, h.b, h.a, fun x y hx hy => (h.c y x hy hx).symm⟩
/-- Two horizons, both made since w. -/
def TwoZ (w w' : World) (g1 g2 : Nat) (H1 H2 : Hz) : Prop := ∃ s1 s2, HzAt w' g1 w.heap.size H1 s1 ∧ HzAt w' g2 w.heap.size H2 s2 ∧ ApartZ g1 s1 g2 s2 ∧ Below w.heap.size w w'
theorem TwoZ.swap {w w' : World} {g1 g2 : Nat} {H1 H2 : Hz} (h : TwoZ w w' g1 g2 H1 H2) : TwoZ w w' g2 g1 H2 H1 := by
  obtain ⟨s1, s2, h1, h2, h3, h4⟩ := h
  exact ⟨s2, s1, h2, h1, h3.swap, h4⟩
theorem TwoZ.one {w w' : World} {g1 g2 : Nat} {H1 H2 : Hz} (h : TwoZ w w' g1 g2 H1 H2) : NewZ w w' g1 H1 := by
  obtain ⟨s1, s2, h1, h2, h3, h4⟩ := h
  exact ⟨s1, h1, h4⟩
theorem TwoZ.two {w w' : World} {g1 g2 : Nat} {H1 H2 : Hz} (h : TwoZ w w' g1 g2 H1 H2) : NewZ w w' g2 H2 := h.swap.one
theorem TwoZ.below {w w' : World} {g1 g2 : Nat} {H1 H2 : Hz} (h : TwoZ w w' g1 g2 H1 H2) : Below w.heap.size w w' := h.one.below
theorem TwoZ.later {w w1 w2 : World} {g1 g2 : Nat} {H1 H2 : Hz} (h : TwoZ w w1 g1 g2 H1 H2) (hb : Below w1.heap.size w1 w2) : TwoZ w w2 g1 g2 H1 H2 := by
  obtain ⟨s1, s2, h1, h2, h3, h4⟩ := h
  exact ⟨s1, s2, h1.below hb, h2.below hb, h3, h4.trans (hb.mono h4.size)⟩
/-- A second one beside the first. -/
theorem TwoZ.made {w w1 w2 : World} {g1 g2 : Nat} {H1 H2 : Hz} (h : NewZ w w1 g1 H1) {s2 : ZSl} (k : HzAt w2 g2 w1.heap.size H2 s2) (hb : Below w1.heap.size w1 w2) : TwoZ w w2 g1 g2 H1 H2 := by
  obtain ⟨s1, h1, h2⟩ := h
  refine ⟨s1, s2, h1.below hb, ⟨k.own, k.row, Nat.le_trans h2.size k.base, fun x hx => Nat.le_trans h2.size (k.base2 x hx), k.ok⟩, ⟨?_, ?_, ?_, ?_⟩, h2.trans (hb.mono h2.size)⟩
  · have := h1.lt; have := k.base; omega
  · intro x hx; have := h1.row.lt x hx; have := k.base; omega
  · intro x hx; have := h1.lt; have := k.base2 x hx; omega
  · intro x y hx hy; have := h1.row.lt x hx; have := k.base2 y hy; omega
/-- An act's block is none of a horizon's. -/
theorem ZaB.kept {w1 w2 : World} {g B j : Nat} {H : Hz} {s : ZSl} {ao : Option Addr} {a : ZA} (h : ZaB w1 j a) (k : HzAt w1 g B H s) (m : ZMoved w1 w2 g s.a ao) : ZaB w2 j a := by
  refine (m.block j (Own.lt h) ?_ ?_).trans h
  · rintro rfl
    have := (show Own w1 j 32 _ from h).is.symm.trans k.own.is
    injection this with e
    injection e with _ e _
    exact absurd e (by decide)
  · rintro x hx rfl
    obtain ⟨cur, hc⟩ := k.row.typ x hx
    have := (show Own w1 x.block 32 _ from h).is.symm.trans hc
    injection this with e
    injection e with _ e _
    exact absurd e (by decide)
theorem TwoZ.act {w w1 : World} {g1 g2 : Nat} {H1 H2 : Hz} (h : TwoZ w w1 g1 g2 H1 H2) (hn : H1.wait.length ≤ 99999) (a : ZA) (ha : a.ok) :
    Calls Try.prog 12 #[.pointer (some ⟨g1, 0, none⟩), .agg #[.int .i64 a.kind, .int .i64 a.p, .int .u32 (a.seq : Int), .int .u64 (a.st : Int)]] w1 fun e w' => e = .returned (.int .u64 (ansZ H1 a : Nat)) ∧ TwoZ w w' g1 g2 (stepZ H1 a) H2 ∧ ∀ j x, ZaB w1 j x → ZaB w' j x := by
  obtain ⟨s1, s2, h1, h2, h3, h4⟩ := h
  refine (zdo h1 hn a ha).mono fun e w' ⟨he, hg⟩ => ⟨he, ?_, ?_⟩
  · obtain ⟨s1', k1, m⟩ := hg.ex
    refine ⟨s1', s2, k1, h2.beside m h3.g.symm (fun x hx => (h3.a x hx).symm) h3.b (fun x y hx hy => (h3.c y x hy hx).symm), ⟨h3.g, ?_, h3.b, ?_⟩, h4.trans (m.below h1 (Nat.le_refl _))⟩
    · intro x hx
      rcases m.own x hx with ⟨x0, e0, e1⟩ | e0
      · rw [← e1]; exact h3.a x0 e0
      · have := h2.lt; omega
    · intro x y hx hy
      rcases m.own x hx with ⟨x0, e0, e1⟩ | e0
      · rw [← e1]; exact h3.c x0 y e0 hy
      · have := h2.row.lt y hy; omega
  · intro j x hx
    obtain ⟨s1', k1, m⟩ := hg.ex
    exact hx.kept h1 m
theorem TwoZ.act2 {w w1 : World} {g1 g2 : Nat} {H1 H2 : Hz} (h : TwoZ w w1 g1 g2 H1 H2) (hn : H2.wait.length ≤ 99999) (a : ZA) (ha : a.ok) :
    Calls Try.prog 12 #[.pointer (some ⟨g2, 0, none⟩), .agg #[.int .i64 a.kind, .int .i64 a.p, .int .u32 (a.seq : Int), .int .u64 (a.st : Int)]] w1 fun e w' => e = .returned (.int .u64 (ansZ H2 a : Nat)) ∧ TwoZ w w' g1 g2 H1 (stepZ H2 a) ∧ ∀ j x, ZaB w1 j x → ZaB w' j x :=
  (h.swap.act hn a ha).mono fun e w' ⟨he, h1, h2⟩ => ⟨he, h1.swap, h2⟩
theorem NewZ.copy {w w1 : World} {g : Nat} {H : Hz} (h : NewZ w w1 g H) (hn : H.wait.length ≤ 100000) :
    Calls Try.prog 17 #[.pointer (some ⟨g, 0, none⟩)] w1 fun e w' => e = .returned (.pointer (some ⟨w1.heap.size, 0, none⟩)) ∧ TwoZ w w' g w1.heap.size H H := by
  have h0 := h
  obtain ⟨s, h1, h2⟩ := h
  exact (zcopy h1 hn).mono fun e w' ⟨s', he, k1, k2⟩ => ⟨he, TwoZ.made h0 k1 k2⟩
theorem NewZ.second {w w1 : World} {g : Nat} {H : Hz} (h : NewZ w w1 g H) (me : Int) (s : Nat) (hs : s < 18446744073709551616) (m0 : -9223372036854775808 ≤ me) (m1 : me ≤ 9223372036854775807) :
    Calls Try.prog 8 #[.int .i64 me, .int .u64 (s : Int)] w1 fun e w' => e = .returned (.pointer (some ⟨w1.heap.size + 1, 0, none⟩)) ∧ TwoZ w w' g (w1.heap.size + 1) H (newZ me s) :=
  (znew me s w1 hs m0 m1).mono fun e w' ⟨he, h1, h2⟩ => ⟨he, TwoZ.made h h1 h2⟩
end Go.Proofs.Ytncldnenlchpnaa
