/- What came in, opened: a script of calls, a row of numbers. -/
import Derived.Test.YtncldnenlchpnaaHzDo
import Derived.Deep.SlicePairs
import Derived.Lib.SmallJoins
import Derived.ChangeSlices
set_option linter.unusedVariables false
set_option linter.unusedSimpArgs false
namespace Go.Proofs.Ytncldnenlchpnaa
open Go.ChangeShapes Go.WideShapes Go.ChangeAt Go.RowKit Go.Joins Go.Deep

def encZ (a : ZA) : List Value := [.int .i64 a.kind, .int .i64 a.p, .int .u32 (a.seq : Int), .int .u64 (a.st : Int)]
theorem encZ_length (a : ZA) : (encZ a).length = 4 := rfl
theorem zlist4 {α : Type} {l : List α} (h : l.length = 4) : ∃ a0 a1 a2 a3, l = [a0, a1, a2, a3] := by
  match l, h with
  | [a0, a1, a2, a3], _ => exact ⟨a0, a1, a2, a3, rfl⟩
theorem zadd_lit (b o k : Nat) : (⟨b, o, none⟩ : Addr).add k = ⟨b, o + k, none⟩ := by cases k <;> simp [Addr.add]
instance : Inhabited ZA := ⟨⟨0, 0, 0, 0⟩⟩
section
variable {H : Type} {enc : TypeId × Value → H} {W : World} {B : Nat} {hd : Bool}
theorem zfld {k o n : Nat} {ty : TypeId} {cs : List Value} {r : Option (DataW H × List MemPlace)} (g : DataW.trod enc Try.prog W B (fun _ => true) hd k ty (List.take (Try.prog.cellsOf ty) (List.drop o cs)) = r) (hc : Try.prog.cellsOf ty = n) (cs' : List Value) (he : List.take n (List.drop o cs) = cs') : DataW.trod enc Try.prog W B (fun _ => true) hd k ty cs' = r := by
  rw [hc, he] at g; exact g
theorem open_zact {n : Nat} {cs : List Value} {y : DataW H × List MemPlace} (h : DataW.trod enc Try.prog W B (fun _ => true) hd n 32 cs = some y) : ∃ a : ZA, cs = encZ a ∧ a.ok := by
  obtain ⟨xs, k, _, rfl, hlen, hxl, hg⟩ := DataW.trod_struct Try.underlying32 h
  have hC : Try.prog.cellsOf 32 = 4 := by kernel_rfl
  have hC1 : Try.prog.cellsOf 3 = 1 := by kernel_rfl
  have hC2 : Try.prog.cellsOf 30 = 1 := by kernel_rfl
  have hC3 : Try.prog.cellsOf 22 = 1 := by kernel_rfl
  rw [hC] at hlen
  obtain ⟨c0, c1, c2, c3, rfl⟩ := zlist4 hlen
  obtain ⟨y0, y1, y2, y3, rfl⟩ := zlist4 hxl
  have g0 := zfld (ty := 3) (o := 0) (r := some y0) (hg 0 _ rfl) hC1 [c0] rfl
  have g1 := zfld (ty := 3) (o := 1) (r := some y1) (hg 1 _ rfl) hC1 [c1] rfl
  have g2 := zfld (ty := 30) (o := 2) (r := some y2) (hg 2 _ rfl) hC2 [c2] rfl
  have g3 := zfld (ty := 22) (o := 3) (r := some y3) (hg 3 _ rfl) hC3 [c3] rfl
  obtain ⟨kk, e0, _, w0⟩ := DataW.trod_int Try.underlying3 g0
  obtain ⟨p, e1, _, w1⟩ := DataW.trod_int Try.underlying3 g1
  obtain ⟨q, e2, _, w2⟩ := DataW.trod_int Try.underlying30 g2
  obtain ⟨st, e3, _, w3⟩ := DataW.trod_int Try.underlying22 g3
  simp at e0 e1 e2 e3
  subst e0 e1 e2 e3
  have b0 := Go.bounds_i64 w0
  have b1 := Go.bounds_i64 w1
  have b2 := Go.bounds_u32 w2
  have b3 := Go.bounds_u64 w3
  obtain ⟨q, rfl⟩ := Int.eq_ofNat_of_zero_le (show 0 ≤ q by omega)
  obtain ⟨st, rfl⟩ := Int.eq_ofNat_of_zero_le (show 0 ≤ st by omega)
  exact ⟨⟨kk, p, q, st⟩, rfl, ⟨b0.1, by show kk ≤ _; omega, b1.1, by show p ≤ _; omega, by show q < _; omega, by show st < _; omega⟩⟩
theorem open_zscript {a : Option Addr} {len cap : Nat} {d : DataW H} {p : List MemPlace} (h : DataW.Trod enc Try.prog W B (fun _ => true) hd 23 (.slice a len cap) d p) :
    ∃ l : List ZA, Lst encZ 4 W a len l ∧ len ≤ maxLen ∧ ∀ m ∈ l, m.ok := by
  obtain ⟨fuel, hf⟩ := h
  rcases Deep.open_slice Try.underlying23 hf with ⟨hcs, _⟩ | ⟨x, l, c, m, n, D, Pl, hcs, _, hl, hm, hmm, _, hx⟩
  · simp [Value.cells] at hcs
    obtain ⟨rfl, rfl, rfl⟩ := hcs
    exact ⟨[], ⟨rfl, fun h => by omega⟩, by decide, fun m hm => by cases hm⟩
  · simp [Value.cells] at hcs
    obtain ⟨rfl, rfl, rfl⟩ := hcs
    have hm' : m = cap := by simpa using hmm
    have hC : Try.prog.cellsOf 32 = 4 := by kernel_rfl
    have each : ∀ i, i < len → ∃ q : ZA, (∀ c v, (encZ q)[c]? = some v → W.cell? (x.add (i * 4 + c)) = some v) ∧ q.ok := by
      intro i hi
      obtain ⟨cs, hc, ht⟩ := hx i (by omega)
      rw [hC] at hc
      obtain ⟨_, hlen, hcell⟩ := World.cells?_some hc
      obtain ⟨q, rfl, hq⟩ := open_zact ht
      refine ⟨q, fun c u hu => ?_, hq⟩
      have hc9 : c < 4 := (List.getElem?_eq_some_iff.1 hu).1
      have := hcell c hc9
      rw [← Go.Deep.add_add, this]
      exact hu
    obtain ⟨z, hz⟩ := Deep.choose_lt each
    refine ⟨(List.range len).map z, ⟨by simp, fun h0 => ?_⟩, ?_, fun q hq => ?_⟩
    · obtain ⟨b, o, sp⟩ := x
      have hsp : sp = none := by simpa [Addr.add] using World.cell?_spot ((hz 0 h0).1 0 _ rfl)
      subst hsp
      refine ⟨b, o, rfl, fun i k hk c v hv => ?_⟩
      rw [List.getElem?_map] at hk
      have hi : i < len := by
        rcases Nat.lt_or_ge i len with h | h
        · exact h
        · rw [List.getElem?_eq_none (by simpa using h)] at hk; cases hk
      rw [List.getElem?_range hi] at hk
      have hk' : z i = k := by simpa using hk
      subst hk'
      have := (hz i hi).1 c v hv
      rw [zadd_lit] at this
      rw [Nat.add_assoc]; exact this
    · exact Nat.le_trans hl hm
    · obtain ⟨i, hi, rfl⟩ := List.mem_map.1 hq
      exact (hz i (List.mem_range.1 hi)).2
theorem ints_lst13 {k : IntKind} {x : Addr} {len : Nat} {zs : List Int} (hlen : len ≤ zs.length) (hc : ∀ i, i < zs.length → W.cell? (x.add i) = some (.int k (zs.getD i 0))) : Lst (fun n : Int => [.int k n]) 1 W (some x) len (zs.take len) := by
  refine ⟨by simp; omega, fun h0 => ?_⟩
  obtain ⟨b, o, sp⟩ := x
  have hsp : sp = none := by simpa [Addr.add] using World.cell?_spot (hc 0 (by omega))
  subst hsp
  refine ⟨b, o, rfl, fun i n hn c v hv => ?_⟩
  have hi : i < len := by
    have := (List.getElem?_eq_some_iff.1 hn).1
    rw [List.length_take] at this
    omega
  rw [List.getElem?_take, if_pos hi] at hn
  have h1 := hc i (by omega)
  rw [zadd_lit, List.getD_eq_getElem?_getD, hn] at h1
  match c, hv with
  | 0, hv =>
    have : v = .int k n := by simpa using hv.symm
    rw [this, Nat.mul_one, Nat.add_zero]; exact h1
  | c + 1, hv => simp at hv

theorem open_zcame {a : Option Addr} {len cap : Nat} {d : DataW H} {p : List MemPlace} (h : DataW.Trod enc Try.prog W B (fun _ => true) hd 35 (.slice a len cap) d p) : ∃ l : List Int, Lst (fun n : Int => [.int .u32 n]) 1 W a len l ∧ ∀ n ∈ l, 0 ≤ n ∧ n ≤ 4294967295 := by
  obtain ⟨fuel, hf⟩ := h
  rcases open_ints Try.underlying35 Try.underlying30 (by kernel_rfl) hf with ⟨hcs, _⟩ | ⟨x, l, c, zs, hcs, _, hl, hm, hz, _, hcell, hwz⟩
  · simp [Value.cells] at hcs
    obtain ⟨rfl, rfl, rfl⟩ := hcs
    exact ⟨[], ⟨rfl, fun h => by omega⟩, fun v hv => by cases hv⟩
  · simp [Value.cells] at hcs
    obtain ⟨rfl, rfl, rfl⟩ := hcs
    have hz' : zs.length = cap := by simpa using hz
    exact ⟨zs.take len, ints_lst13 (by omega) hcell, fun v hv => Go.bounds_u32 (hwz v (List.mem_of_mem_take hv))⟩
end
end Go.Proofs.Ytncldnenlchpnaa
