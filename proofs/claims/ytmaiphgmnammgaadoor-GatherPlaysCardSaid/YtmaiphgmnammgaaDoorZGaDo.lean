/- Layer 16: one act; attempts but for where counts lie; rows beside an attempt; two attempts. -/
import Derived.Test.YtmaiphgmnammgaaDoorZGaLaws
set_option linter.unusedVariables false
set_option maxRecDepth 100000
set_option linter.unusedSimpArgs false
namespace Go.Proofs.YtmaiphgmnammgaaDoor
open Go.RowKit Go.Sort Go.Maps

/-! ### Plain -/
theorem strip_stripX (x : Xg) : stripX (stripX x) = stripX x := rfl
/-- An attempt, but for where its exchanges' counts lie. -/
def nS (S : Gt) : Gt := { S with H := fun k => (S.H k).map stripX }
def doN (T : Gt) (a : GA) : Gt := if a.rd = true then readyG T a.p else addG T (stripX a.x)
def runN (T : Gt) (l : List GA) : Gt := l.foldl doN T
theorem runN_next {T : Gt} {l : List GA} {k : Nat} {a : GA} (h : l[k]? = some a) : runN T (l.take (k + 1)) = doN (runN T (l.take k)) a := by
  unfold runN
  rw [List.take_add_one, h, List.foldl_append]; rfl
section
variable {S : Gt}
theorem told_nS (p : Nat) : told (nS S).H p = told S.H p := by
  unfold told nS
  simp
theorem wait_nS : waitG (nS S) = waitG S := by
  have : lackG (nS S) = lackG S := num_ext _ _ fun i _ => by rw [told_nS]; rfl
  unfold waitG
  rw [this]; rfl
theorem fresh_nS (z : Int) : freshG (nS S) z = freshG S z := by
  unfold freshG nS
  simp
theorem done_nS : doneG (nS S) = doneG S := rfl
theorem tell_nS : toldG (nS S) = toldG S := rfl
theorem ready_nS (z : Int) : nS (readyG S z) = readyG (nS S) z := by
  have h : readyOk (nS S) z = readyOk S z := by unfold readyOk; rw [wait_nS]; rfl
  unfold readyG
  rw [h]
  split <;> rfl
theorem readyB_nS (z : Int) : readyB (nS S) z = readyB S z := by
  have h : readyOk (nS S) z = readyOk S z := by unfold readyOk; rw [wait_nS]; rfl
  unfold readyB
  rw [h]; rfl
theorem add_nS {x y : Xg} (hs : stripX y = stripX x) : nS (addG S y) = addG (nS S) (stripX x) := by
  have hw : y.w = (stripX x).w := by have := stripX_w hs; exact this
  unfold addG
  rw [fresh_nS, ← hw]
  split
  · unfold nS
    simp only
    congr 1
    funext k
    unfold setI
    split
    · simp [hs]
    · rfl
  · rfl
theorem addB_nS {x y : Xg} (hs : stripX y = stripX x) : addB (nS S) (stripX x) = addB S y := by
  have hw : y.w = (stripX x).w := by have := stripX_w hs; exact this
  unfold addB
  rw [fresh_nS, ← hw]; rfl
theorem addB_x (x : Xg) : addB (nS S) (stripX x) = addB S x := addB_nS rfl
theorem ex_nS : exL (nS S) = (exL S).map stripX := by
  unfold exL exN nS
  simp only
  rw [List.map_filterMap]
theorem nS_M : (nS S).M = S.M := rfl
theorem nS_new (e r : Int) (M : Nat) : nS (newG e r M) = newG e r M := rfl
end
/-! ### Beside an attempt -/
theorem GtB.other {w w' : World} {g mb j : Nat} {S : Gt} {cur : Array Value} {t : TypeId} (h : GtB w g mb S) (hc : Chg (fun k => k = g ∨ k = mb) w w') (hj : w.heap[j]? = some (.cells cur t (0, 0))) (ht : t ≠ 71) : w'.heap[j]? = w.heap[j]? :=
  hc.block j (Array.getElem?_eq_some_iff.1 hj).1 fun e => by
    rcases e with rfl | rfl
    · have := h.blk.is.symm.trans hj
      injection this with e1
      injection e1 with _ e2 _
      exact ht e2.symm
    · obtain ⟨es, c, hm⟩ := h.map.is
      have := hm.symm.trans hj
      injection this with e1
      cases e1
/-- A row of exchanges, in blocks of their kinds. -/
structure RowX (w : World) (a : Option Addr) (n : Nat) (X : List Xg) : Prop where
  at_ : Lst encXg 6 w a n X
  typ : ∀ ad, a = some ad → ∃ cur, w.heap[ad.block]? = some (.cells cur 38 (0, 0))
  xs : ∀ x ∈ X, XT w x
theorem RowX.of {w0 w : World} {a : Option Addr} {n c : Nat} {X L : List Xg} (h : ExSt w0 w (.slice a n c) n X L) : RowX w a n X :=
  ⟨own_lst' encXg_length h.len h.own, fun ad e => by
    subst e
    rcases h.own.2 with ⟨h1, _⟩ | ⟨g, cc, cur, h1, _, h3, _⟩
    · cases h1
    · injection h1 with h1 _ _
      injection h1 with h1
      subst h1
      exact ⟨cur, h3⟩, fun x hx => (h.xs x hx).1⟩
theorem RowX.moved {w w' : World} {a : Option Addr} {n : Nat} {X : List Xg} (h : RowX w a n X) (hb : ∀ (j : Nat) (cur : Array Value) (t : TypeId), w.heap[j]? = some (.cells cur t (0, 0)) → t ≠ 71 → w'.heap[j]? = w.heap[j]?) : RowX w' a n X := by
  refine ⟨⟨h.at_.size, fun h0 => ?_⟩, fun ad e => ?_, fun x hx => (h.xs x hx).kept fun ad e => ?_⟩
  · obtain ⟨b, o, e, R⟩ := h.at_.src h0
    obtain ⟨cur, hc⟩ := h.typ _ e
    exact ⟨b, o, e, fun i y hy c v hv => (World.cell?_of_block (a := ⟨b, o + i * 6 + c, none⟩) (by exact hb b cur _ hc (by decide))).trans (R i y hy c v hv)⟩
  · obtain ⟨cur, hc⟩ := h.typ ad e
    exact ⟨cur, (hb _ _ _ hc (by decide)).trans hc⟩
  · obtain ⟨cur, hc⟩ := (h.xs x hx).typ ad e
    exact hb _ _ _ hc (by decide)
theorem RowX.act {w w' : World} {a : Option Addr} {n g mb : Nat} {X : List Xg} {S : Gt} (h : RowX w a n X) (hg : GtB w g mb S) (hc : Chg (fun k => k = g ∨ k = mb) w w') : RowX w' a n X :=
  h.moved fun j cur t hj ht => hg.other hc hj ht
theorem RowX.later {w w' : World} {a : Option Addr} {n : Nat} {X : List Xg} (h : RowX w a n X) (hb : Below w.heap.size w w') : RowX w' a n X :=
  h.moved fun j cur t hj ht => hb.block j (Array.getElem?_eq_some_iff.1 hj).1
/-- Two attempts, beside each other. -/
structure Gt2 (w0 w : World) (g mb : Nat) (S : Gt) (g2 mb2 : Nat) (S2 : Gt) : Prop where
  a : GtN w0 w g mb S
  c : GtN w0 w g2 mb2 S2
  ng : g2 ≠ g
  nm : mb2 ≠ mb
theorem Gt2.later {w0 w w' : World} {g mb g2 mb2 : Nat} {S S2 : Gt} (h : Gt2 w0 w g mb S g2 mb2 S2) (hb : Below w.heap.size w w') : Gt2 w0 w' g mb S g2 mb2 S2 := ⟨h.a.later hb, h.c.later hb, h.ng, h.nm⟩
theorem Gt2.swap {w0 w : World} {g mb g2 mb2 : Nat} {S S2 : Gt} (h : Gt2 w0 w g mb S g2 mb2 S2) : Gt2 w0 w g2 mb2 S2 g mb S := ⟨h.c, h.a, h.ng.symm, h.nm.symm⟩
theorem Gt2.act {w0 w w' : World} {g mb g2 mb2 : Nat} {S S' S2 : Gt} (h : Gt2 w0 w g mb S g2 mb2 S2) (ha : GtB w' g mb S') (hc : Chg (fun k => k = g ∨ k = mb) w w') : Gt2 w0 w' g mb S' g2 mb2 S2 := by
  have hb : Below w0.heap.size w0 w' := h.a.bel.trans (hc.below h.a.bel.size fun k hk => by rcases hk with rfl | rfl; exact h.a.g0; exact h.a.m0)
  exact ⟨⟨ha, h.a.g0, h.a.m0, hb⟩, ⟨h.a.at_.beside h.c.at_ h.ng h.nm hc, h.c.g0, h.c.m0, hb⟩, h.ng, h.nm⟩
/-- What an act leaves. -/
def DoSaid (w : World) (g mb : Nat) (S : Gt) (a : GA) (e : Ending) (w' : World) : Prop :=
  e = .returned (.tuple #[]) ∧ ∃ S', GtB w' g mb S' ∧ nS S' = doN (nS S) a ∧ Chg (fun k => k = g ∨ k = mb) w w'
set_option maxHeartbeats 2000000 in
theorem gdo {w : World} {g mb : Nat} {S : Gt} (h : GtB w g mb S) (a : GA) (ha : a.ok w) :
    Calls Tryd.prog 33 #[.pointer (some ⟨g, 0, none⟩), .agg (encGA a).toArray] w (DoSaid w g mb S a) := by
  have L4 := ((Grw.refl w).alloc (.cells (encGA a).toArray 40)).below
  have A4 := Lib.hid (AcB.new w a)
  have H4 := Lib.hid (h.later L4)
  have HX4 := Lib.hid (ha.x.below L4)
  have HC4 := Lib.hid (Chg.of_below (D := fun k => k = g ∨ k = mb) L4)
  have hp := ha.p
  clear h ha L4
  obtain ⟨rd, p, f, oe, op, xa, xn, xc, ct, kn, kp⟩ := a
  unfold encGA at *
  simp only at A4 H4 HX4 hp HC4
  go_enter Tryd.func33, Tryd.ntmps33
  go_upto_region 1 with fail
  generalize (w.alloc (.cells #[.bool rd, .int .i64 p, .int .i64 f, .int .u64 oe, .int .i64 op, .slice xa xn xc, .int .u64 kn, .int .i64 kp] 40)) = w4 at *
  generalize w.heap.size = ab at *
  have c0 : w4.cell? ⟨ab, 0, none⟩ = some (.bool rd) := A4.out.c0
  cases rd with
  | true =>
    have c1 : w4.cell? ⟨ab, 1, none⟩ = some (.int .i64 p) := A4.out.c1
    have PR := gready H4.out p hp
    go_wp2_with fail
    refine PR.mono ?_
    rintro e w6 ha
    have he := ha.1
    subst he
    have HF : Hid (DoSaid w g mb S ⟨true, p, ⟨f, oe, op, xa, xn, xc, ct, ⟨kn, kp⟩⟩⟩ (.returned (.tuple #[])) w6) := Lib.hid ⟨rfl, _, ha.2.1, by rw [ready_nS]; rfl, HC4.out.trans ha.2.2⟩
    clear PR ha c0 c1 A4
    go_wp2
    go_end0
    exact HF.out
  | false =>
    have HRX := Lib.hid (show w4.rangeAt ab 2 (encXg ⟨f, oe, op, xa, xn, xc, ct, ⟨kn, kp⟩⟩) from A4.out.rng)
    have PR := gadd H4.out ⟨f, oe, op, xa, xn, xc, ct, ⟨kn, kp⟩⟩ HX4.out
    unfold encXv encXg at PR
    simp only at PR
    go_wp2_with (first | (refine load_xgm rfl (.tmp 11) rfl ab 2 ⟨f, oe, op, xa, xn, xc, ct, ⟨kn, kp⟩⟩ rfl HRX.out ?_) | fail)
    refine PR.mono ?_
    rintro e w6 ⟨y, hst, ha⟩
    have he := ha.1
    subst he
    have HF : Hid (DoSaid w g mb S ⟨false, p, ⟨f, oe, op, xa, xn, xc, ct, ⟨kn, kp⟩⟩⟩ (.returned (.tuple #[])) w6) := Lib.hid ⟨rfl, _, ha.2.1, by rw [add_nS hst]; rfl, HC4.out.trans ha.2.2⟩
    clear PR ha c0 A4 hst HRX
    go_wp2
    go_end0
    exact HF.out
end Go.Proofs.YtmaiphgmnammgaaDoor
