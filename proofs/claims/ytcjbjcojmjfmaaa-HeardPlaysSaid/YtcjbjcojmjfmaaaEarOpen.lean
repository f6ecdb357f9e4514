/- What came in, opened: a script of acts; a configuration. -/
import Derived.Test.YtcjbjcojmjfmaaaEarAwake
import Derived.Deep.SlicePairs
import Derived.Lib.SmallJoins
import Derived.ChangeSlices
set_option linter.unusedVariables false
set_option linter.unusedSimpArgs false
namespace Go.Proofs.Ytcjbjcojmjfmaaa
open Go.ChangeShapes Go.WideShapes Go.ChangeAt Go.RowKit Go.Joins Go.Deep

/-- An act: its kind, a process, a beat, a set. -/
structure HA where
  kind : Int
  p : Int
  b : Bt
  s : Nat
def encH (a : HA) : List Value := [.int .i64 a.kind, .int .i64 a.p, .int .u64 (a.b.ce : Int), .int .i64 a.b.cr, .int .u64 (a.b.pe : Int), .int .i64 a.b.pr, .int .u64 (a.b.ep : Int), .int .u64 (a.s : Int)]
structure HA.ok (a : HA) : Prop where
  k0 : -9223372036854775808 ≤ a.kind
  k1 : a.kind ≤ 9223372036854775807
  p0 : -9223372036854775808 ≤ a.p
  p1 : a.p ≤ 9223372036854775807
  b : a.b.ok
  s : a.s < 18446744073709551616
theorem hlist2 {α : Type} {l : List α} (h : l.length = 2) : ∃ a0 a1, l = [a0, a1] := by
  match l, h with
  | [a0, a1], _ => exact ⟨a0, a1, rfl⟩
theorem hlist3 {α : Type} {l : List α} (h : l.length = 3) : ∃ a0 a1 a2, l = [a0, a1, a2] := by
  match l, h with
  | [a0, a1, a2], _ => exact ⟨a0, a1, a2, rfl⟩
theorem hlist4 {α : Type} {l : List α} (h : l.length = 4) : ∃ a0 a1 a2 a3, l = [a0, a1, a2, a3] := by
  match l, h with
  | [a0, a1, a2, a3], _ => exact ⟨a0, a1, a2, a3, rfl⟩
theorem hlist5 {α : Type} {l : List α} (h : l.length = 5) : ∃ a0 a1 a2 a3 a4, l = [a0, a1, a2, a3, a4] := by
  match l, h with
  | [a0, a1, a2, a3, a4], _ => exact ⟨a0, a1, a2, a3, a4, rfl⟩
theorem hlist8 {α : Type} {l : List α} (h : l.length = 8) : ∃ a0 a1 a2 a3 a4 a5 a6 a7, l = [a0, a1, a2, a3, a4, a5, a6, a7] := by
  match l, h with
  | [a0, a1, a2, a3, a4, a5, a6, a7], _ => exact ⟨a0, a1, a2, a3, a4, a5, a6, a7, rfl⟩
theorem hadd_lit (b o k : Nat) : (⟨b, o, none⟩ : Addr).add k = ⟨b, o + k, none⟩ := by cases k <;> simp [Addr.add]

instance : Inhabited HA := ⟨⟨0, 0, bt0, 0⟩⟩
section
variable {H : Type} {enc : TypeId × Value → H} {W : World} {B : Nat} {hd : Bool}
theorem hfld {k o n : Nat} {ty : TypeId} {cs : List Value} {r : Option (DataW H × List MemPlace)} (g : DataW.trod enc Try.prog W B (fun _ => true) hd k ty (List.take (Try.prog.cellsOf ty) (List.drop o cs)) = r) (hc : Try.prog.cellsOf ty = n) (cs' : List Value) (he : List.take n (List.drop o cs) = cs') : DataW.trod enc Try.prog W B (fun _ => true) hd k ty cs' = r := by
  rw [hc, he] at g; exact g
theorem open_hconf {n : Nat} {cs : List Value} {y : DataW H × List MemPlace} (h : DataW.trod enc Try.prog W B (fun _ => true) hd n 25 cs = some y) : ∃ (e : Nat) (r : Int), cs = [.int .u64 (e : Int), .int .i64 r] ∧ e < 18446744073709551616 ∧ -9223372036854775808 ≤ r ∧ r ≤ 9223372036854775807 := by
  obtain ⟨xs, k, _, rfl, hlen, hxl, hg⟩ := DataW.trod_struct Try.underlying25 h
  have hC : Try.prog.cellsOf 25 = 2 := by kernel_rfl
  have hC1 : Try.prog.cellsOf 3 = 1 := by kernel_rfl
  have hC2 : Try.prog.cellsOf 23 = 1 := by kernel_rfl
  rw [hC] at hlen
  obtain ⟨c0, c1, rfl⟩ := hlist2 hlen
  obtain ⟨y0, y1, rfl⟩ := hlist2 hxl
  have g0 := hfld (ty := 23) (o := 0) (r := some y0) (hg 0 _ rfl) hC2 [c0] rfl
  have g1 := hfld (ty := 3) (o := 1) (r := some y1) (hg 1 _ rfl) hC1 [c1] rfl
  obtain ⟨e, e0, _, w0⟩ := DataW.trod_int Try.underlying23 g0
  obtain ⟨r, e1, _, w1⟩ := DataW.trod_int Try.underlying3 g1
  simp at e0 e1
  subst e0 e1
  have b0 := Go.bounds_u64 w0
  have b1 := Go.bounds_i64 w1
  obtain ⟨e, rfl⟩ := Int.eq_ofNat_of_zero_le (show 0 ≤ e by omega)
  exact ⟨e, r, rfl, by omega, by omega, by omega⟩
theorem open_hbeat {n : Nat} {cs : List Value} {y : DataW H × List MemPlace} (h : DataW.trod enc Try.prog W B (fun _ => true) hd n 33 cs = some y) : ∃ b : Bt, cs = encB b ∧ b.ok := by
  obtain ⟨xs, k, _, rfl, hlen, hxl, hg⟩ := DataW.trod_struct Try.underlying33 h
  have hC : Try.prog.cellsOf 33 = 5 := by kernel_rfl
  have hC1 : Try.prog.cellsOf 25 = 2 := by kernel_rfl
  have hC2 : Try.prog.cellsOf 23 = 1 := by kernel_rfl
  rw [hC] at hlen
  obtain ⟨c0, c1, c2, c3, c4, rfl⟩ := hlist5 hlen
  obtain ⟨y0, y1, y2, rfl⟩ := hlist3 hxl
  have g0 := hfld (ty := 25) (o := 0) (r := some y0) (hg 0 _ rfl) hC1 [c0, c1] rfl
  have g1 := hfld (ty := 25) (o := 2) (r := some y1) (hg 1 _ rfl) hC1 [c2, c3] rfl
  have g2 := hfld (ty := 23) (o := 4) (r := some y2) (hg 2 _ rfl) hC2 [c4] rfl
  obtain ⟨ce, cr, e0, h00, h01, h02⟩ := open_hconf g0
  obtain ⟨pe, pr, e1, h10, h11, h12⟩ := open_hconf g1
  obtain ⟨ep, e2, _, w2⟩ := DataW.trod_int Try.underlying23 g2
  simp at e0 e1 e2
  obtain ⟨rfl, rfl⟩ := e0
  obtain ⟨rfl, rfl⟩ := e1
  subst e2
  have b2 := Go.bounds_u64 w2
  obtain ⟨ep, rfl⟩ := Int.eq_ofNat_of_zero_le (show 0 ≤ ep by omega)
  exact ⟨⟨ce, cr, pe, pr, ep⟩, rfl, ⟨h00, h01, h02, h10, h11, h12, by show ep < _; omega⟩⟩
theorem open_hact {n : Nat} {cs : List Value} {y : DataW H × List MemPlace} (h : DataW.trod enc Try.prog W B (fun _ => true) hd n 35 cs = some y) : ∃ a : HA, cs = encH a ∧ a.ok := by
  obtain ⟨xs, k, _, rfl, hlen, hxl, hg⟩ := DataW.trod_struct Try.underlying35 h
  have hC : Try.prog.cellsOf 35 = 8 := by kernel_rfl
  have hC1 : Try.prog.cellsOf 3 = 1 := by kernel_rfl
  have hC2 : Try.prog.cellsOf 33 = 5 := by kernel_rfl
  have hC4 : Try.prog.cellsOf 23 = 1 := by kernel_rfl
  rw [hC] at hlen
  obtain ⟨c0, c1, c2, c3, c4, c5, c6, c7, rfl⟩ := hlist8 hlen
  obtain ⟨y0, y1, y2, y3, rfl⟩ := hlist4 hxl
  have g0 := hfld (ty := 3) (o := 0) (r := some y0) (hg 0 _ rfl) hC1 [c0] rfl
  have g1 := hfld (ty := 3) (o := 1) (r := some y1) (hg 1 _ rfl) hC1 [c1] rfl
  have g2 := hfld (ty := 33) (o := 2) (r := some y2) (hg 2 _ rfl) hC2 [c2, c3, c4, c5, c6] rfl
  have g3 := hfld (ty := 23) (o := 7) (r := some y3) (hg 3 _ rfl) hC4 [c7] rfl
  obtain ⟨kk, e0, _, w0⟩ := DataW.trod_int Try.underlying3 g0
  obtain ⟨p, e1, _, w1⟩ := DataW.trod_int Try.underlying3 g1
  obtain ⟨b, e2, w2⟩ := open_hbeat g2
  obtain ⟨s, e3, _, w3⟩ := DataW.trod_int Try.underlying23 g3
  simp [encB] at e0 e1 e2 e3
  obtain ⟨rfl, rfl, rfl, rfl, rfl⟩ := e2
  subst e0 e1 e3
  have b0 := Go.bounds_i64 w0
  have b1 := Go.bounds_i64 w1
  have b3 := Go.bounds_u64 w3
  obtain ⟨s, rfl⟩ := Int.eq_ofNat_of_zero_le (show 0 ≤ s by omega)
  exact ⟨⟨kk, p, b, s⟩, rfl, ⟨b0.1, by show kk ≤ _; omega, b1.1, by show p ≤ _; omega, w2, by show s < _; omega⟩⟩
theorem open_hscript {a : Option Addr} {len cap : Nat} {d : DataW H} {p : List MemPlace} (h : DataW.Trod enc Try.prog W B (fun _ => true) hd 22 (.slice a len cap) d p) :
    ∃ l : List HA, Lst encH 8 W a len l ∧ len ≤ maxLen ∧ ∀ m ∈ l, m.ok := by
  obtain ⟨fuel, hf⟩ := h
  rcases Deep.open_slice Try.underlying22 hf with ⟨hcs, _⟩ | ⟨x, l, c, m, n, D, Pl, hcs, _, hl, hm, hmm, _, hx⟩
  · simp [Value.cells] at hcs
    obtain ⟨rfl, rfl, rfl⟩ := hcs
    exact ⟨[], ⟨rfl, fun h => by omega⟩, by decide, fun m hm => by cases hm⟩
  · simp [Value.cells] at hcs
    obtain ⟨rfl, rfl, rfl⟩ := hcs
    have hm' : m = cap := by simpa using hmm
    have hC : Try.prog.cellsOf 35 = 8 := by kernel_rfl
    have each : ∀ i, i < len → ∃ q : HA, (∀ c v, (encH q)[c]? = some v → W.cell? (x.add (i * 8 + c)) = some v) ∧ q.ok := by
      intro i hi
      obtain ⟨cs, hc, ht⟩ := hx i (by omega)
      rw [hC] at hc
      obtain ⟨_, hlen, hcell⟩ := World.cells?_some hc
      obtain ⟨q, rfl, hq⟩ := open_hact ht
      refine ⟨q, fun c u hu => ?_, hq⟩
      have hc9 : c < 8 := (List.getElem?_eq_some_iff.1 hu).1
      have := hcell c hc9
      rw [← Go.Deep.add_add, this]
      exact hu
    obtain ⟨z, hz⟩ := Deep.choose_lt each
    refine ⟨(List.range len).map z, ⟨by simp, fun h0 => ?_⟩, ?_, fun q hq => ?_⟩
    · obtain ⟨b, o, sp⟩ := x
      have hsp : sp = none := by simpa [Addr.add] using World.cell?_spot ((hz 0 h0).1 0 _ rfl)
      subst hsp
      refine ⟨b, o, rfl, fun i k hk c v hv => ?_⟩
      rw [List.getElem?_map] at hk
      have hi : i < len := by
        rcases Nat.lt_or_ge i len with h | h
        · exact h
        · rw [List.getElem?_eq_none (by simpa using h)] at hk; cases hk
      rw [List.getElem?_range hi] at hk
      have hk' : z i = k := by simpa using hk
      subst hk'
      have := (hz i hi).1 c v hv
      rw [hadd_lit] at this
      rw [Nat.add_assoc]; exact this
    · exact Nat.le_trans hl hm
    · obtain ⟨i, hi, rfl⟩ := List.mem_map.1 hq
      exact (hz i (List.mem_range.1 hi)).2
end
end Go.Proofs.Ytcjbjcojmjfmaaa
