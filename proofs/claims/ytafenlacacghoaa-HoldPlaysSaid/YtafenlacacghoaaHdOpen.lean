/- What came in, opened: messages, a script of calls. -/
import Derived.Test.YtafenlacacghoaaHdAwake
import Derived.Deep.SlicePairs
import Derived.Lib.SmallJoins
import Derived.ChangeSlices
set_option linter.unusedVariables false
set_option linter.unusedSimpArgs false
namespace Go.Proofs.Ytafenlacacghoaa
open Go.ChangeShapes Go.WideShapes Go.ChangeAt Go.RowKit Go.Joins Go.Deep

/-- An act of the law's script. -/
structure Ha where
  drop : Bool
  p : Int
  upto : Nat
  m : Mg
instance : Inhabited Ha := ⟨⟨false, 0, 0, zeroG⟩⟩
def encA (a : Ha) : List Value := .bool a.drop :: .int .i64 a.p :: .int .u32 (a.upto : Int) :: encG a.m
theorem encA_length (a : Ha) : (encA a).length = 9 := rfl
/-- What is known of an act that came in. -/
structure Ha.ok (w : World) (a : Ha) : Prop where
  p0 : -9223372036854775808 ≤ a.p
  p1 : a.p ≤ 9223372036854775807
  u : a.upto < 4294967296
  d : DpIn w a.m
  q0 : 0 ≤ a.m.q
  q1 : a.m.q < 4294967296
theorem hlist9 {α : Type} {l : List α} (h : l.length = 9) : ∃ a0 a1 a2 a3 a4 a5 a6 a7 a8, l = [a0, a1, a2, a3, a4, a5, a6, a7, a8] := by
  match l, h with
  | [a0, a1, a2, a3, a4, a5, a6, a7, a8], _ => exact ⟨a0, a1, a2, a3, a4, a5, a6, a7, a8, rfl⟩
theorem hlist6 {α : Type} {l : List α} (h : l.length = 6) : ∃ a0 a1 a2 a3 a4 a5, l = [a0, a1, a2, a3, a4, a5] := by
  match l, h with
  | [a0, a1, a2, a3, a4, a5], _ => exact ⟨a0, a1, a2, a3, a4, a5, rfl⟩
theorem hlist4 {α : Type} {l : List α} (h : l.length = 4) : ∃ a0 a1 a2 a3, l = [a0, a1, a2, a3] := by
  match l, h with
  | [a0, a1, a2, a3], _ => exact ⟨a0, a1, a2, a3, rfl⟩
section
variable {H : Type} {enc : TypeId × Value → H} {W : World} {B : Nat} {hd : Bool}
theorem hfld12 {k o n : Nat} {ty : TypeId} {cs : List Value} {r : Option (DataW H × List MemPlace)} (g : DataW.trod enc Try.prog W B (fun _ => true) hd k ty (List.take (Try.prog.cellsOf ty) (List.drop o cs)) = r) (hc : Try.prog.cellsOf ty = n) (cs' : List Value) (he : List.take n (List.drop o cs) = cs') : DataW.trod enc Try.prog W B (fun _ => true) hd k ty cs' = r := by
  rw [hc, he] at g; exact g
theorem ints_lst12 {k : IntKind} {x : Addr} {len : Nat} {zs : List Int} (hlen : len ≤ zs.length) (hc : ∀ i, i < zs.length → W.cell? (x.add i) = some (.int k (zs.getD i 0))) : Lst (fun n : Int => [.int k n]) 1 W (some x) len (zs.take len) := by
  refine ⟨by simp; omega, fun h0 => ?_⟩
  obtain ⟨b, o, sp⟩ := x
  have hsp : sp = none := by simpa [Addr.add] using World.cell?_spot (hc 0 (by omega))
  subst hsp
  refine ⟨b, o, rfl, fun i n hn c v hv => ?_⟩
  have hi : i < len := by
    have := (List.getElem?_eq_some_iff.1 hn).1
    rw [List.length_take] at this
    omega
  rw [List.getElem?_take, if_pos hi] at hn
  have h1 := hc i (by omega)
  rw [add_lit10, List.getD_eq_getElem?_getD, hn] at h1
  match c, hv with
  | 0, hv =>
    have : v = .int k n := by simpa using hv.symm
    rw [this, Nat.mul_one, Nat.add_zero]; exact h1
  | c + 1, hv => simp at hv
theorem open_deps12 {n : Nat} {v : Value} {y : DataW H × List MemPlace} (h : DataW.trod enc Try.prog W B (fun _ => true) hd n 35 [v] = some y) : ∃ (a : Option Addr) (dl dc : Nat) (deps : List Int), v = .slice a dl dc ∧ Lst (fun n : Int => [.int .u32 n]) 1 W a dl deps := by
  rcases open_ints Try.underlying35 Try.underlying23 (by kernel_rfl) h with ⟨hcs, _⟩ | ⟨x, l, c, zs, hcs, _, hl, hm, hz, _, hcell, hwz⟩
  · simp only [List.cons.injEq, and_true] at hcs
    exact ⟨none, 0, 0, [], hcs, rfl, fun h => by omega⟩
  · simp only [List.cons.injEq, and_true] at hcs
    have hz' : zs.length = c := by simpa using hz
    exact ⟨some x, l, c, zs.take l, hcs, ints_lst12 (by omega) hcell⟩
theorem open_msg12 {n : Nat} {cs : List Value} {y : DataW H × List MemPlace} (h : DataW.trod enc Try.prog W B (fun _ => true) hd n 37 cs = some y) : ∃ m : Mg, cs = encG m ∧ DpIn W m ∧ 0 ≤ m.q ∧ m.q < 4294967296 := by
  obtain ⟨xs, k, _, rfl, hlen, hxl, hg⟩ := DataW.trod_struct Try.underlying37 h
  have hC : Try.prog.cellsOf 37 = 6 := by kernel_rfl
  have hC1 : Try.prog.cellsOf 3 = 1 := by kernel_rfl
  have hC2 : Try.prog.cellsOf 23 = 1 := by kernel_rfl
  have hC3 : Try.prog.cellsOf 24 = 1 := by kernel_rfl
  have hC4 : Try.prog.cellsOf 35 = 1 := by kernel_rfl
  have hC5 : Try.prog.cellsOf 9 = 1 := by kernel_rfl
  rw [hC] at hlen
  obtain ⟨c0, c1, c2, c3, c4, c5, rfl⟩ := hlist6 hlen
  obtain ⟨y0, y1, y2, y3, y4, y5, rfl⟩ := hlist6 hxl
  have g0 := hfld12 (ty := 3) (o := 0) (r := some y0) (hg 0 _ rfl) hC1 [c0] rfl
  have g1 := hfld12 (ty := 23) (o := 1) (r := some y1) (hg 1 _ rfl) hC2 [c1] rfl
  have g2 := hfld12 (ty := 24) (o := 2) (r := some y2) (hg 2 _ rfl) hC3 [c2] rfl
  have g3 := hfld12 (ty := 3) (o := 3) (r := some y3) (hg 3 _ rfl) hC1 [c3] rfl
  have g4 := hfld12 (ty := 35) (o := 4) (r := some y4) (hg 4 _ rfl) hC4 [c4] rfl
  have g5 := hfld12 (ty := 9) (o := 5) (r := some y5) (hg 5 _ rfl) hC5 [c5] rfl
  obtain ⟨f, e0, _⟩ := DataW.trod_int Try.underlying3 g0
  obtain ⟨q, e1, _, wq⟩ := DataW.trod_int Try.underlying23 g1
  have hwq := Go.bounds_u32 wq
  obtain ⟨s, e2, _⟩ := DataW.trod_int Try.underlying24 g2
  obtain ⟨v, e3, _⟩ := DataW.trod_int Try.underlying3 g3
  obtain ⟨da, dl, dc, deps, e4, hdeps⟩ := open_deps12 g4
  obtain ⟨text, e5, _⟩ := DataW.trod_string Try.underlying9 g5
  simp at e0 e1 e2 e3 e5
  subst e0 e1 e2 e3 e4 e5
  exact ⟨⟨f, q, s, v, da, dl, dc, deps, text⟩, rfl, hdeps, hwq.1, by show q < 4294967296; omega⟩
theorem open_hact {n : Nat} {cs : List Value} {y : DataW H × List MemPlace} (h : DataW.trod enc Try.prog W B (fun _ => true) hd n 39 cs = some y) : ∃ a : Ha, cs = encA a ∧ a.ok W := by
  obtain ⟨xs, k, _, rfl, hlen, hxl, hg⟩ := DataW.trod_struct Try.underlying39 h
  have hC : Try.prog.cellsOf 39 = 9 := by kernel_rfl
  have hC0 : Try.prog.cellsOf 4 = 1 := by kernel_rfl
  have hC1 : Try.prog.cellsOf 3 = 1 := by kernel_rfl
  have hC2 : Try.prog.cellsOf 23 = 1 := by kernel_rfl
  have hC3 : Try.prog.cellsOf 37 = 6 := by kernel_rfl
  rw [hC] at hlen
  obtain ⟨c0, c1, c2, c3, c4, c5, c6, c7, c8, rfl⟩ := hlist9 hlen
  obtain ⟨y0, y1, y2, y3, rfl⟩ := hlist4 hxl
  have g0 := hfld12 (ty := 4) (o := 0) (r := some y0) (hg 0 _ rfl) hC0 [c0] rfl
  have g1 := hfld12 (ty := 3) (o := 1) (r := some y1) (hg 1 _ rfl) hC1 [c1] rfl
  have g2 := hfld12 (ty := 23) (o := 2) (r := some y2) (hg 2 _ rfl) hC2 [c2] rfl
  have g3 := hfld12 (ty := 37) (o := 3) (r := some y3) (hg 3 _ rfl) hC3 [c3, c4, c5, c6, c7, c8] rfl
  obtain ⟨b, e0, _⟩ := DataW.trod_bool Try.underlying4 g0
  obtain ⟨p, e1, _, wp⟩ := DataW.trod_int Try.underlying3 g1
  obtain ⟨u, e2, _, wu⟩ := DataW.trod_int Try.underlying23 g2
  obtain ⟨m, e3, hdm, q0, q1⟩ := open_msg12 g3
  simp at e0 e1 e2
  have b1 := Go.bounds_i64 wp
  have b2 := Go.bounds_u32 wu
  obtain ⟨u, rfl⟩ := Int.eq_ofNat_of_zero_le (show 0 ≤ u by omega)
  refine ⟨⟨b, p, u, m⟩, ?_, ⟨b1.1, by show p ≤ _; omega, by show u < _; omega, hdm, q0, q1⟩⟩
  unfold encA
  rw [← e3, e0, e1, e2]
theorem open_hscr {a : Option Addr} {len cap : Nat} {d : DataW H} {p : List MemPlace} (h : DataW.Trod enc Try.prog W B (fun _ => true) hd 22 (.slice a len cap) d p) :
    ∃ l : List Ha, Lst encA 9 W a len l ∧ ∀ m ∈ l, m.ok W := by
  obtain ⟨fuel, hf⟩ := h
  rcases Deep.open_slice Try.underlying22 hf with ⟨hcs, _⟩ | ⟨x, l, c, m, n, D, Pl, hcs, _, hl, hm, hmm, _, hx⟩
  · simp [Value.cells] at hcs
    obtain ⟨rfl, rfl, rfl⟩ := hcs
    exact ⟨[], ⟨rfl, fun h => by omega⟩, fun m hm => by cases hm⟩
  · simp [Value.cells] at hcs
    obtain ⟨rfl, rfl, rfl⟩ := hcs
    have hm' : m = cap := by simpa using hmm
    have hC : Try.prog.cellsOf 39 = 9 := by kernel_rfl
    have each : ∀ i, i < len → ∃ q : Ha, (∀ c v, (encA q)[c]? = some v → W.cell? (x.add (i * 9 + c)) = some v) ∧ q.ok W := by
      intro i hi
      obtain ⟨cs, hc, ht⟩ := hx i (by omega)
      rw [hC] at hc
      obtain ⟨_, hlen, hcell⟩ := World.cells?_some hc
      obtain ⟨q, rfl, hq⟩ := open_hact ht
      refine ⟨q, fun c u hu => ?_, hq⟩
      have hc9 : c < 9 := (List.getElem?_eq_some_iff.1 hu).1
      have := hcell c hc9
      rw [← Go.Deep.add_add, this]
      exact hu
    obtain ⟨z, hz⟩ := Deep.choose_lt each
    refine ⟨(List.range len).map z, ⟨by simp, fun h0 => ?_⟩, fun q hq => ?_⟩
    · obtain ⟨b, o, sp⟩ := x
      have hsp : sp = none := by simpa [Addr.add] using World.cell?_spot ((hz 0 h0).1 0 _ rfl)
      subst hsp
      refine ⟨b, o, rfl, fun i k hk c v hv => ?_⟩
      rw [List.getElem?_map] at hk
      have hi : i < len := by
        rcases Nat.lt_or_ge i len with h | h
        · exact h
        · rw [List.getElem?_eq_none (by simpa using h)] at hk; cases hk
      rw [List.getElem?_range hi] at hk
      have hk' : z i = k := by simpa using hk
      subst hk'
      have := (hz i hi).1 c v hv
      rw [add_lit10] at this
      rw [Nat.add_assoc]; exact this
    · obtain ⟨i, hi, rfl⟩ := List.mem_map.1 hq
      exact (hz i (List.mem_range.1 hi)).2
theorem open_ml {a : Option Addr} {len cap : Nat} {d : DataW H} {p : List MemPlace} (h : DataW.Trod enc Try.prog W B (fun _ => true) hd 31 (.slice a len cap) d p) :
    ∃ l : List Mg, Lst encG 6 W a len l ∧ (a = none → cap = 0) ∧ ∀ m ∈ l, DpIn W m ∧ 0 ≤ m.q ∧ m.q < 4294967296 := by
  obtain ⟨fuel, hf⟩ := h
  rcases Deep.open_slice Try.underlying31 hf with ⟨hcs, _⟩ | ⟨x, l, c, m, n, D, Pl, hcs, _, hl, hm, hmm, _, hx⟩
  · simp [Value.cells] at hcs
    obtain ⟨rfl, rfl, rfl⟩ := hcs
    exact ⟨[], ⟨rfl, fun h => by omega⟩, fun _ => rfl, fun m hm => by cases hm⟩
  · simp [Value.cells] at hcs
    obtain ⟨rfl, rfl, rfl⟩ := hcs
    have hm' : m = cap := by simpa using hmm
    have hC : Try.prog.cellsOf 37 = 6 := by kernel_rfl
    have each : ∀ i, i < len → ∃ q : Mg, (∀ c v, (encG q)[c]? = some v → W.cell? (x.add (i * 6 + c)) = some v) ∧ DpIn W q ∧ 0 ≤ q.q ∧ q.q < 4294967296 := by
      intro i hi
      obtain ⟨cs, hc, ht⟩ := hx i (by omega)
      rw [hC] at hc
      obtain ⟨_, hlen, hcell⟩ := World.cells?_some hc
      obtain ⟨q, rfl, hq⟩ := open_msg12 ht
      refine ⟨q, fun c u hu => ?_, hq⟩
      have hc6 : c < 6 := (List.getElem?_eq_some_iff.1 hu).1
      have := hcell c hc6
      rw [← Go.Deep.add_add, this]
      exact hu
    obtain ⟨z, hz⟩ := Deep.choose_lt each
    refine ⟨(List.range len).map z, ⟨by simp, fun h0 => ?_⟩, (fun h => by cases h), fun q hq => ?_⟩
    · obtain ⟨b, o, sp⟩ := x
      have hsp : sp = none := by simpa [Addr.add] using World.cell?_spot ((hz 0 h0).1 0 _ rfl)
      subst hsp
      refine ⟨b, o, rfl, fun i k hk c v hv => ?_⟩
      rw [List.getElem?_map] at hk
      have hi : i < len := by
        rcases Nat.lt_or_ge i len with h | h
        · exact h
        · rw [List.getElem?_eq_none (by simpa using h)] at hk; cases hk
      rw [List.getElem?_range hi] at hk
      have hk' : z i = k := by simpa using hk
      subst hk'
      have := (hz i hi).1 c v hv
      rw [add_lit10] at this
      rw [Nat.add_assoc]; exact this
    · obtain ⟨i, hi, rfl⟩ := List.mem_map.1 hq
      exact (hz i (List.mem_range.1 hi)).2
end
end Go.Proofs.Ytafenlacacghoaa
