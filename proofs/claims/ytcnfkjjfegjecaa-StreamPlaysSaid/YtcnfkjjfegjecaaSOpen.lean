/- What came in, opened: messages, numbers. -/
import Derived.Test.YtcnfkjjfegjecaaSAwake
import Derived.Deep.SlicePairs
import Derived.Lib.SmallJoins
import Derived.ChangeSlices
set_option linter.unusedVariables false
set_option linter.unusedSimpArgs false
namespace Go.Proofs.Ytcnfkjjfegjecaa
open Go.ChangeShapes Go.WideShapes Go.ChangeAt Go.RowKit Go.Joins Go.Deep

section
variable {H : Type} {enc : TypeId × Value → H} {W : World} {B : Nat} {hd : Bool}

theorem ints_lst10 {k : IntKind} {x : Addr} {len : Nat} {zs : List Int} (hlen : len ≤ zs.length) (hc : ∀ i, i < zs.length → W.cell? (x.add i) = some (.int k (zs.getD i 0))) : Lst (fun n : Int => [.int k n]) 1 W (some x) len (zs.take len) := by
  refine ⟨by simp; omega, fun h0 => ?_⟩
  obtain ⟨b, o, sp⟩ := x
  have hsp : sp = none := by simpa [Addr.add] using World.cell?_spot (hc 0 (by omega))
  subst hsp
  refine ⟨b, o, rfl, fun i n hn c v hv => ?_⟩
  have hi : i < len := by
    have := (List.getElem?_eq_some_iff.1 hn).1
    rw [List.length_take] at this
    omega
  rw [List.getElem?_take, if_pos hi] at hn
  have h1 := hc i (by omega)
  rw [add_lit10, List.getD_eq_getElem?_getD, hn] at h1
  match c, hv with
  | 0, hv =>
    have : v = .int k n := by simpa using hv.symm
    rw [this, Nat.mul_one, Nat.add_zero]; exact h1
  | c + 1, hv => simp at hv

theorem open_deps10 {n : Nat} {v : Value} {y : DataW H × List MemPlace} (h : DataW.trod enc Try.prog W B (fun _ => true) hd n 35 [v] = some y) : ∃ (a : Option Addr) (dl dc : Nat) (deps : List Int), v = .slice a dl dc ∧ Lst (fun n : Int => [.int .u32 n]) 1 W a dl deps := by
  rcases open_ints Try.underlying35 Try.underlying23 (by kernel_rfl) h with ⟨hcs, _⟩ | ⟨x, l, c, zs, hcs, _, hl, hm, hz, _, hcell, hwz⟩
  · simp only [List.cons.injEq, and_true] at hcs
    exact ⟨none, 0, 0, [], hcs, rfl, fun h => by omega⟩
  · simp only [List.cons.injEq, and_true] at hcs
    have hz' : zs.length = c := by simpa using hz
    exact ⟨some x, l, c, zs.take l, hcs, ints_lst10 (by omega) hcell⟩

theorem open_l {a : Option Addr} {len cap : Nat} {d : DataW H} {p : List MemPlace} (h : DataW.Trod enc Try.prog W B (fun _ => true) hd 22 (.slice a len cap) d p) :
    ∃ l : List Mg, Lst encG 6 W a len l ∧ (a = none → cap = 0) ∧ ∀ m ∈ l, DpIn W m ∧ 0 ≤ m.q ∧ m.q < 4294967296 := by
  obtain ⟨fuel, hf⟩ := h
  rcases Deep.open_slice Try.underlying22 hf with ⟨hcs, _⟩ | ⟨x, l, c, m, n, D, Pl, hcs, _, hl, hm, hmm, _, hx⟩
  · simp [Value.cells] at hcs
    obtain ⟨rfl, rfl, rfl⟩ := hcs
    exact ⟨[], ⟨rfl, fun h => by omega⟩, fun _ => rfl, fun m hm => by cases hm⟩
  · simp [Value.cells] at hcs
    obtain ⟨rfl, rfl, rfl⟩ := hcs
    have hm' : m = cap := by simpa using hmm
    have hC : Try.prog.cellsOf 37 = 6 := by kernel_rfl
    have each : ∀ i, i < len → ∃ q : Mg, (∀ c v, (encG q)[c]? = some v → W.cell? (x.add (i * 6 + c)) = some v) ∧ DpIn W q ∧ 0 ≤ q.q ∧ q.q < 4294967296 := by
      intro i hi
      obtain ⟨cs, hc, ht⟩ := hx i (by omega)
      rw [hC] at hc
      obtain ⟨_, hlen, hcell⟩ := World.cells?_some hc
      obtain ⟨xs, k, _, _, _, hxl, hg⟩ := DataW.trod_struct Try.underlying37 ht
      match cs, hlen with
      | [c0, c1, c2, c3, c4, c5], _ =>
        match xs, hxl with
        | [y0, y1, y2, y3, y4, y5], _ =>
          have hone : oneCellFields Try.prog _ = true := (show oneCellFields Try.prog (match Try.prog.underlying 37 with | some (.struct fs) => fs | _ => #[]) = true by kernel_rfl)
          rw [Try.underlying37] at hone
          obtain ⟨o0, k0⟩ := hone_of hone 0 _ rfl
          obtain ⟨o1, k1⟩ := hone_of hone 1 _ rfl
          obtain ⟨o2, k2⟩ := hone_of hone 2 _ rfl
          obtain ⟨o3, k3⟩ := hone_of hone 3 _ rfl
          obtain ⟨o4, k4⟩ := hone_of hone 4 _ rfl
          obtain ⟨o5, k5⟩ := hone_of hone 5 _ rfl
          have g0 := hg 0 _ rfl
          have g1 := hg 1 _ rfl
          have g2 := hg 2 _ rfl
          have g3 := hg 3 _ rfl
          have g4 := hg 4 _ rfl
          have g5 := hg 5 _ rfl
          rw [o0, k0] at g0
          rw [o1, k1] at g1
          rw [o2, k2] at g2
          rw [o3, k3] at g3
          rw [o4, k4] at g4
          rw [o5, k5] at g5
          obtain ⟨f, e0, _⟩ := DataW.trod_int Try.underlying3 g0
          obtain ⟨q, e1, _, wq⟩ := DataW.trod_int Try.underlying23 g1
          have hwq := Go.bounds_u32 wq
          obtain ⟨s, e2, _⟩ := DataW.trod_int Try.underlying34 g2
          obtain ⟨v, e3, _⟩ := DataW.trod_int Try.underlying3 g3
          obtain ⟨da, dl, dc, deps, e4, hdeps⟩ := open_deps10 g4
          obtain ⟨text, e5, _⟩ := DataW.trod_string Try.underlying9 g5
          simp at e0 e1 e2 e3 e5
          subst e0 e1 e2 e3 e4 e5
          refine ⟨⟨f, q, s, v, da, dl, dc, deps, text⟩, fun c u hu => ?_, hdeps, hwq.1, by show q < 4294967296; omega⟩
          have hc6 : c < 6 := (List.getElem?_eq_some_iff.1 hu).1
          have := hcell c hc6
          rw [← Go.Deep.add_add, this]
          exact hu
    obtain ⟨z, hz⟩ := Deep.choose_lt each
    refine ⟨(List.range len).map z, ⟨by simp, fun h0 => ?_⟩, (fun h => by cases h), fun q hq => ?_⟩
    · obtain ⟨b, o, sp⟩ := x
      have hsp : sp = none := by simpa [Addr.add] using World.cell?_spot ((hz 0 h0).1 0 _ rfl)
      subst hsp
      refine ⟨b, o, rfl, fun i k hk c v hv => ?_⟩
      rw [List.getElem?_map] at hk
      have hi : i < len := by
        rcases Nat.lt_or_ge i len with h | h
        · exact h
        · rw [List.getElem?_eq_none (by simpa using h)] at hk; cases hk
      rw [List.getElem?_range hi] at hk
      have hk' : z i = k := by simpa using hk
      subst hk'
      have := (hz i hi).1 c v hv
      rw [add_lit10] at this
      rw [Nat.add_assoc]; exact this
    · obtain ⟨i, hi, rfl⟩ := List.mem_map.1 hq
      exact (hz i (List.mem_range.1 hi)).2
/-- Numbers of 16 bits that came in. -/
theorem open_turns {a : Option Addr} {len cap : Nat} {d : DataW H} {p : List MemPlace} (h : DataW.Trod enc Try.prog W B (fun _ => true) hd 51 (.slice a len cap) d p) : ∃ l : List Int, Lst (fun n : Int => [.int .u16 n]) 1 W a len l ∧ ∀ n ∈ l, 0 ≤ n ∧ n ≤ 65535 := by
  obtain ⟨fuel, hf⟩ := h
  rcases open_ints Try.underlying51 Try.underlying52 (by kernel_rfl) hf with ⟨hcs, _⟩ | ⟨x, l, c, zs, hcs, _, hl, hm, hz, _, hcell, hwz⟩
  · simp [Value.cells] at hcs
    obtain ⟨rfl, rfl, rfl⟩ := hcs
    exact ⟨[], ⟨rfl, fun h => by omega⟩, fun v hv => by cases hv⟩
  · simp [Value.cells] at hcs
    obtain ⟨rfl, rfl, rfl⟩ := hcs
    have hz' : zs.length = cap := by simpa using hz
    exact ⟨zs.take len, ints_lst10 (by omega) hcell, fun v hv => Go.bounds_u16 (hwz v (List.mem_of_mem_take hv))⟩
end
end Go.Proofs.Ytcnfkjjfegjecaa
