/- Layer 19: what the parsing of both sides answers, in one form. -/
import Derived.Test.YtblefbjmjhgkkaaZLgSame
import Derived.Test.YtblefbjmjhgkkaaZLgOpen
set_option linter.unusedVariables false
set_option maxRecDepth 100000
set_option linter.unusedSimpArgs false
namespace Go.Proofs.Ytblefbjmjhgkkaa
open Go.RowKit Go.Sort

theorem Vw.fits.ok {v : Vw} (h : v.fits) : v.ok := ⟨h.n, h.e, by have := h.r.1; omega, by have := h.r.2; omega, h.m⟩
theorem Rp.fits.ok {x : Rp} (h : x.fits) : x.ok := ⟨h.last.ok, fun v hv => (h.pend v hv).ok⟩
theorem zeroRp_ok : zeroRp.ok := ⟨zeroV_ok, fun v hv => by cases hv⟩
theorem cleanI_ok {x : Itm} (hf : fitsI x) : (cleanI x).ok := by
  unfold fitsI at hf
  unfold cleanI
  by_cases h1 : x.k = 1
  · rw [if_pos h1]
    exact ⟨by show (0 : Nat) < _; decide, by show (0 : Nat) < _; decide, zeroRp_ok, zeroV_ok, by show (0 : Nat) < _; decide⟩
  · by_cases h2 : x.k = 2
    · rw [if_neg h1, if_pos h2] at hf
      rw [if_neg h1, if_pos h2]
      exact ⟨hf.1, hf.2.1, hf.2.2.ok, zeroV_ok, by show (0 : Nat) < _; decide⟩
    · by_cases h3 : x.k = 3
      · rw [if_neg h1, if_neg h2, if_pos h3] at hf
        rw [if_neg h1, if_neg h2, if_pos h3]
        exact ⟨by show (0 : Nat) < _; decide, by show (0 : Nat) < _; decide, zeroRp_ok, hf.ok, by show (0 : Nat) < _; decide⟩
      · rw [if_neg h1, if_neg h2, if_neg h3] at hf
        rw [if_neg h1, if_neg h2, if_neg h3]
        exact ⟨by show (0 : Nat) < _; decide, by show (0 : Nat) < _; decide, zeroRp_ok, zeroV_ok, hf.2.1⟩
theorem parsedI_ok {l : List UInt8} {x : Itm} (h : parseI l = .ok x) : x.ok := by
  obtain ⟨hk, hf, hc, _, _⟩ := parseI_iff.1 h
  rw [← hc]
  exact cleanI_ok hf
/-- What is parsed, or nothing of it, and the error. -/
def resS (s : ByteArray) : Stb × Nat := match parseS s.data.toList with
  | .ok x => (x, 0)
  | .error c => (zeroS, c)
def resI (s : ByteArray) : Itm × Nat := match parseI s.data.toList with
  | .ok x => (x, 0)
  | .error c => (zeroI, c)
theorem resS_ok {s : ByteArray} {x : Stb} (h : parseS s.data.toList = .ok x) : resS s = (x, 0) := by unfold resS; rw [h]
theorem resS_err {s : ByteArray} {c : Nat} (h : parseS s.data.toList = .error c) : resS s = (zeroS, c) := by unfold resS; rw [h]
theorem resI_ok {s : ByteArray} {x : Itm} (h : parseI s.data.toList = .ok x) : resI s = (x, 0) := by unfold resI; rw [h]
theorem resI_err {s : ByteArray} {c : Nat} (h : parseI s.data.toList = .error c) : resI s = (zeroI, c) := by unfold resI; rw [h]
theorem parsedS_ok {l : List UInt8} {x : Stb} (h : parseS l = .ok x) : x.ep < 18446744073709551616 ∧ x.inc < 4294967296 ∧ x.r.ok := by
  obtain ⟨h1, h2, h3⟩ := (parseS_iff.1 h).1
  exact ⟨h1, h2, h3.ok⟩
theorem rc_of {w : World} {B k c : Nat} {a : Option Addr} {r : Rp} (ho : w.ownsRow B 28 4 (.slice a k c) k (flat encV r.pend)) (hl : r.pend.length = k) (hr : r.ok) : RcIn w ⟨r, a, k, c⟩ := ⟨own_vws ho hl hr.pend, hr.last, own_nil18 ho⟩
theorem rc_nil (w : World) : RcIn w ⟨⟨⟨0, 0, 0, 0⟩, []⟩, none, 0, 0⟩ := nil_rc w _ zV_ok
theorem formS {s : ByteArray} (hs : s.size ≤ 1099511627776) (w : World) : Calls Try.prog 7 #[.string s] w fun e w' =>
    ∃ a k c, e = .returned (.tuple #[.agg (encS (resS s).1 a k c).toArray, .int .i64 ((resS s).2 : Int)]) ∧ StIn w' ⟨(resS s).1, a, k, c⟩ ∧ k ≤ 255 ∧ Below w.heap.size w w' := by
  refine (lparseS s hs w).mono ?_
  rintro e w' ⟨hb, ⟨x, _, hG, rfl, ⟨a, k, c, rfl, ho, hl, hk⟩⟩ | ⟨c, _, hG, rfl⟩⟩
  · obtain ⟨h1, h2, h3⟩ := parsedS_ok hG
    rw [resS_ok hG]
    exact ⟨a, k, c, rfl, ⟨rc_of ho hl h3, h1, h2⟩, by omega, hb⟩
  · rw [resS_err hG]
    exact ⟨none, 0, 0, rfl, ⟨rc_nil _, by show (0 : Nat) < _; decide, by show (0 : Nat) < _; decide⟩, by decide, hb⟩
theorem dformS {s : ByteArray} (hs : s.size ≤ 1099511627776) (w : World) : Calls Try.prog 8 #[.string s] w fun e w' =>
    ∃ a k c, e = .returned (.tuple #[.agg (encS (resS s).1 a k c).toArray, .int .i64 ((resS s).2 : Int)]) ∧ RcIn w' ⟨(resS s).1.r, a, k, c⟩ ∧ k ≤ 255 ∧ Below w.heap.size w w' := by
  refine (dparseS s hs w).mono ?_
  rintro e w' ⟨hb, ⟨x, a, k, c, hG, rfl, hr, ho, hl, hk⟩ | ⟨c, _, hG, rfl⟩⟩
  · rw [resS_ok hG]
    exact ⟨a, k, c, rfl, rc_of ho hl hr, hk, hb⟩
  · rw [resS_err hG]
    exact ⟨none, 0, 0, rfl, rc_nil _, by decide, hb⟩
theorem zeroI_ok : zeroI.ok := ⟨by decide, by decide, zeroRp_ok, zeroV_ok, by decide⟩
/-- An item's text, as bytes. -/
def textI (x : Itm) : ByteArray := ⟨x.data.toArray⟩
theorem textI_of {T : ByteArray} {x : Itm} (h : T.data.toList = x.data) : T = textI x := text_of h
theorem textI_list (x : Itm) : (textI x).data.toList = x.data := rfl
theorem formI {s : ByteArray} (hs : s.size ≤ 1099511627776) (w : World) : Calls Try.prog 9 #[.string s] w fun e w' =>
    ∃ a k c, e = .returned (.tuple #[.agg (encI (resI s).1 (textI (resI s).1) a k c).toArray, .int .i64 ((resI s).2 : Int)]) ∧ RcIn w' ⟨(resI s).1.r, a, k, c⟩ ∧ k ≤ 255 ∧ Below w.heap.size w w' := by
  refine (lparseI s hs w).mono ?_
  rintro e w' ⟨hb, ⟨x, _, hG, rfl, ⟨T, a, k, c, rfl, ho⟩⟩ | ⟨c, _, hG, rfl⟩⟩
  · have hok := parsedI_ok hG
    have hT := textI_of ho.text
    subst hT
    rw [resI_ok hG]
    exact ⟨a, k, c, rfl, rc_of ho.row ho.len hok.r, by have := ho.few; omega, hb⟩
  · rw [resI_err hG]
    exact ⟨none, 0, 0, rfl, rc_nil _, by decide, hb⟩
theorem dformI {s : ByteArray} (hs : s.size ≤ 1099511627776) (w : World) : Calls Try.prog 10 #[.string s] w fun e w' =>
    ∃ a k c, e = .returned (.tuple #[.agg (encI (resI s).1 (textI (resI s).1) a k c).toArray, .int .i64 ((resI s).2 : Int)]) ∧ RcIn w' ⟨(resI s).1.r, a, k, c⟩ ∧ k ≤ 255 ∧ Below w.heap.size w w' := by
  refine (dparseI s hs w).mono ?_
  rintro e w' ⟨hb, ⟨x, T, a, k, c, hG, rfl, hT, hr, ho, hl, hk⟩ | ⟨c, _, hG, rfl⟩⟩
  · have hT := textI_of hT
    subst hT
    rw [resI_ok hG]
    exact ⟨a, k, c, rfl, rc_of ho hl hr, hk, hb⟩
  · rw [resI_err hG]
    exact ⟨none, 0, 0, rfl, rc_nil _, by decide, hb⟩
/-- A struct's block, boxed anew and stored. -/
theorem own_range {w : World} {g : Nat} {ty : TypeId} {cs : List Value} (h : Own w g ty cs.toArray) : w.rangeAt g 0 cs := fun j u hj => by
  rw [Nat.zero_add]
  exact Own.at_ h j u (by rw [List.getElem?_toArray]; exact hj)
end Go.Proofs.Ytblefbjmjhgkkaa
