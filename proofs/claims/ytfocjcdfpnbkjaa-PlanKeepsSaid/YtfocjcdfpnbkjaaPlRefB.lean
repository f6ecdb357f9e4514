/- Layer 15: the document's own answers: Right. -/
import Derived.Test.YtfocjcdfpnbkjaaPlMore
import Derived.Deep.DeepCutAuto
import Derived.BigQuiet
set_option linter.unusedVariables false
set_option maxRecDepth 100000
set_option linter.unusedSimpArgs false
namespace Go.Proofs.Ytfocjcdfpnbkjaa
open Go.RowKit Go.Sort Go.Shelf Go.Maps

/-- Amid Right. -/
structure RtSt (l : List Xg) (me : Int) (fb : Bool) : Prop where
  in_ : ∀ x ∈ l, 0 ≤ x.w ∧ x.w < 64
  nd : (l.map Xg.w).Nodup
  fd : fb = true ↔ ∃ x ∈ l, x.w = me
theorem RtSt.start (me : Int) : RtSt [] me false := ⟨fun x hx => (by cases hx), List.nodup_nil, ⟨fun h => (by cases h), fun ⟨x, hx, _⟩ => (by cases hx)⟩⟩
theorem RtSt.step {l : List Xg} {me : Int} {fb : Bool} (h : RtSt l me fb) (x : Xg) (h0 : 0 ≤ x.w) (h1 : x.w < 64) (hn : ∀ y ∈ l, y.w ≠ x.w) : RtSt (l ++ [x]) me (fb || decide (x.w = me)) := by
  refine ⟨fun y hy => ?_, ?_, ?_⟩
  · rcases List.mem_append.1 hy with hy | hy
    · exact h.in_ y hy
    · rw [List.mem_singleton.1 hy]; exact ⟨h0, h1⟩
  · rw [List.map_append, List.nodup_append]
    refine ⟨h.nd, by simp, fun a ha b hb e => ?_⟩
    obtain ⟨y, hy, rfl⟩ := List.mem_map.1 ha
    have hb' : b = x.w := by simpa using hb
    exact hn y hy (e.trans hb')
  · rw [Bool.or_eq_true, decide_eq_true_eq, h.fd]
    constructor
    · rintro (⟨y, hy, e⟩ | e)
      · exact ⟨y, by simp [hy], e⟩
      · exact ⟨x, by simp, e⟩
    · rintro ⟨y, hy, e⟩
      rcases List.mem_append.1 hy with hy | hy
      · exact .inl ⟨y, hy, e⟩
      · rw [List.mem_singleton.1 hy] at e; exact .inr e
theorem RtSt.yes {l : List Xg} {me : Int} (h : RtSt l me true) : ∃ y, HasPlan l me y := by
  obtain ⟨y, hy, e⟩ := h.fd.1 rfl
  exact ⟨y, hy, e, h.in_, h.nd⟩
theorem RtSt.no {l : List Xg} {me : Int} (h : RtSt l me false) : ¬ ∃ y, HasPlan l me y := fun ⟨y, hy⟩ => by
  have := h.fd.2 ⟨y, hy.mem, hy.me⟩
  cases this
theorem not_in {l : List Xg} {me : Int} {x : Xg} (hx : x ∈ l) (h : x.w < 0 ∨ 63 < x.w) : ¬ ∃ y, HasPlan l me y := fun ⟨y, hy⟩ => by
  have := hy.ap.in_ x hx
  omega
theorem not_nd {l : List Xg} {me : Int} {x y : Xg} {i j : Nat} (hx : l[i]? = some x) (hy : l[j]? = some y) (hij : i < j) (e : x.w = y.w) : ¬ ∃ y, HasPlan l me y := fun ⟨y', hp⟩ => by
  have hn := hp.ap.nd
  have h1 : (l.map Xg.w)[i]? = some x.w := by rw [List.getElem?_map, hx]; rfl
  have h2 : (l.map Xg.w)[j]? = some y.w := by rw [List.getElem?_map, hy]; rfl
  obtain ⟨b1, e1⟩ := List.getElem?_eq_some_iff.1 h1
  obtain ⟨b2, e2⟩ := List.getElem?_eq_some_iff.1 h2
  rw [List.Nodup, List.pairwise_iff_getElem] at hn
  exact hn i j b1 b2 hij (by rw [e1, e2, e])
/-- What Right answers. -/
def RightSaid (w : World) (l : List Xg) (me : Int) (e : Ending) (w' : World) : Prop :=
  (e = .returned (.bool true) ∧ (∃ y, HasPlan l me y) ∨ e = .returned (.bool false) ∧ ¬ ∃ y, HasPlan l me y) ∧ Below w.heap.size w w'
theorem take_snocB {α : Type} {l : List α} {k : Nat} {x : α} (h : l[k]? = some x) : l.take (k + 1) = l.take k ++ [x] := by rw [List.take_add_one, h]; rfl
set_option maxHeartbeats 4000000 in
theorem refRight {w : World} {ao : Option Addr} {n : Nat} {l : List Xg} (h : XgL w ao n l) (c : Nat) (hn : n ≤ 1048576) (me : Int) (m0 : -9223372036854775808 ≤ me) (m1 : me ≤ 9223372036854775807) :
    Calls Try.prog 42 #[.int .i64 me, .slice ao n c] w (RightSaid w l me) := by
  have HL := Lib.hid h
  have HLEN := Lib.hid h.at_.size
  clear h
  go_enter Try.func42, Try.ntmps42
  go_wp2
  go_loopw [5, 6] (fun sf si wr => ∃ (k : Nat) (fb : Bool), k ≤ n ∧ sf = .bool fb ∧ si = .int .i64 k ∧ Aside (RtSt (l.take k) me fb) ∧ Aside (Below w.heap.size w wr)) (fun _ si _ => n - (intOf si).toNat)
  case atStart => exact ⟨0, false, Nat.zero_le _, rfl, rfl, RtSt.start me, Below.refl _ _⟩
  case round =>
    obtain ⟨k, fb, hk, rfl, rfl, HS, HB⟩ := hrel
    by_cases hlt : k < n
    · obtain ⟨b, o, x, rfl, hx, hr⟩ := (HL.out.below HB.out).row hlt
      have c0 : wr.cell? ⟨b, o + k * 6, none⟩ = some (.int .i64 x.w) := hr 0 _ rfl
      have HX := Lib.hid hx
      have HST := Lib.hid (HS.out.step x)
      rw [← take_snocB hx] at HST
      obtain ⟨xw, hxw⟩ : ∃ xw, xw = x.w := ⟨_, rfl⟩
      rw [← hxw] at c0 HST
      have HXW := Lib.hid hxw
      clear hr hx hxw HS
      cases h0 : decide (xw < 0) with
      | true =>
        have HNO := Lib.hid (not_in (me := me) (List.mem_of_getElem? HX.out) (.inl (by rw [← HXW.out]; exact of_decide_eq_true h0)))
        go_wp2
        go_ret
        exact ⟨.inr ⟨rfl, HNO.out⟩, HB.out⟩
      | false =>
        cases h1 : decide (63 < xw) with
        | true =>
          have HNO := Lib.hid (not_in (me := me) (List.mem_of_getElem? HX.out) (.inr (by rw [← HXW.out]; exact of_decide_eq_true h1)))
          go_wp2
          go_ret
          exact ⟨.inr ⟨rfl, HNO.out⟩, HB.out⟩
        | false =>
          have h0' := of_decide_eq_false h0
          have h1' := of_decide_eq_false h1
          go_wp2
          clear h0 h1
          obtain ⟨wq, hwq⟩ : ∃ wq, wq = wr := ⟨_, rfl⟩
          subst hwq
          go_loopw [7] (fun si w2 => ∃ (j : Nat), j ≤ k ∧ si = .int .i64 j ∧ Aside (∀ y ∈ l.take j, y.w ≠ xw) ∧ Aside (Below wq.heap.size wq w2)) (fun si _ => k - (intOf si).toNat)
          case atStart => exact ⟨0, Nat.zero_le _, rfl, (fun y hy => by rw [List.take_zero] at hy; cases hy), Below.refl _ _⟩
          case round =>
            obtain ⟨j, hj, rfl, HA, HB2⟩ := hrel
            have HBB := Lib.hid (HB.out.trans (HB2.out.mono HB.out.size))
            have c0' : wr.cell? ⟨b, o + k * 6, none⟩ = some (.int .i64 xw) := cell_later HB2.out c0
            by_cases hlt2 : j < k
            · obtain ⟨b', o', y, hab, hy, hry⟩ := (HL.out.below HBB.out).row (show j < n by omega)
              cases hab
              have d0 : wr.cell? ⟨b, o + j * 6, none⟩ = some (.int .i64 y.w) := hry 0 _ rfl
              have HY := Lib.hid hy
              obtain ⟨yw, hyw⟩ : ∃ yw, yw = y.w := ⟨_, rfl⟩
              rw [← hyw] at d0
              have HYW := Lib.hid hyw
              clear hry hy hyw c0
              go_upto_region 10 with fail
              go_quiet (fail)
              have HB3 := Lib.hid (HB2.out.trans (((Grw.refl _).drewN nq).below.mono HB2.out.size))
              clear c0' d0
              cases he : (yw == xw) with
              | true =>
                have HNO := Lib.hid (not_nd (me := me) HY.out HX.out hlt2 (by rw [← HYW.out, ← HXW.out]; simpa using he))
                go_wp2
                go_ret
                exact ⟨.inr ⟨rfl, HNO.out⟩, HB.out.trans (HB3.out.mono HB.out.size)⟩
              | false =>
                have HA2 := Lib.hid (show ∀ z ∈ l.take (j + 1), z.w ≠ xw from fun z hz => by
                  rw [take_snocB HY.out] at hz
                  rcases List.mem_append.1 hz with hz | hz
                  · exact HA.out z hz
                  · rw [List.mem_singleton.1 hz, ← HYW.out]; simpa using he)
                go_wp2
                go_roundw
                case rel => exact ⟨j + 1, by omega, by go_num, HA2.out, HB3.out⟩
                case measure => simp [intOf]; omega
            · obtain rfl : j = k := by omega
              have HST2 := Lib.hid (HST.out (by omega) (by omega) HA.out)
              cases fb with
              | true =>
                go_wp2
                go_roundw
                case rel => exact ⟨j + 1, true, by omega, rfl, by go_num, HST2.out, HBB.out⟩
                case measure => simp [intOf]; omega
              | false =>
                cases he : (xw == me) with
                | true =>
                  have HE := Lib.hid (show RtSt (l.take (j + 1)) me true from by
                    have := HST2.out
                    rw [decide_eq_true (show xw = me by simpa using he)] at this
                    exact this)
                  go_wp2
                  go_roundw
                  case rel => exact ⟨j + 1, true, by omega, rfl, by go_num, HE.out, HBB.out⟩
                  case measure => simp [intOf]; omega
                | false =>
                  have HE := Lib.hid (show RtSt (l.take (j + 1)) me false from by
                    have := HST2.out
                    rw [decide_eq_false (show ¬ xw = me by simpa using he)] at this
                    exact this)
                  go_wp2
                  go_roundw
                  case rel => exact ⟨j + 1, false, by omega, rfl, by go_num, HE.out, HBB.out⟩
                  case measure => simp [intOf]; omega
    · have HT := Lib.hid (show RtSt l me fb from by have := HS.out; rwa [List.take_of_length_le (by rw [HLEN.out]; omega)] at this)
      clear HS
      go_wp2
      go_ret
      cases fb with
      | true => exact ⟨.inl ⟨rfl, HT.out.yes⟩, HB.out⟩
      | false => exact ⟨.inr ⟨rfl, HT.out.no⟩, HB.out⟩
end Go.Proofs.Ytfocjcdfpnbkjaa
