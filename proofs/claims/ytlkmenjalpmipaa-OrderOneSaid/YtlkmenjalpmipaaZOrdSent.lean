/- What came in, opened: senders' words, bytes. -/
import Derived.Test.YtlkmenjalpmipaaZOrdOpens
set_option linter.unusedVariables false
set_option maxRecDepth 100000
set_option linter.unusedSimpArgs false
namespace Go.Proofs.Ytlkmenjalpmipaa
open Go.ChangeShapes Go.WideShapes Go.ChangeAt Go.RowKit Go.Joins Go.Deep

/-- A message as a sender sends it. -/
structure Sn where
  frm : Int
  later : Int
  svc : Int
  pay : ByteArray
instance : Inhabited Sn := ⟨⟨0, 0, 0, { data := #[] }⟩⟩
def encS (x : Sn) : List Value := [.int .i64 x.frm, .int .i64 x.later, .int .i64 x.svc, .string x.pay]
theorem encS_length (x : Sn) : (encS x).length = 4 := rfl
structure Sn.ok (x : Sn) : Prop where
  f0 : -9223372036854775808 ≤ x.frm
  f1 : x.frm ≤ 9223372036854775807
  l0 : -9223372036854775808 ≤ x.later
  l1 : x.later ≤ 9223372036854775807
  s0 : -9223372036854775808 ≤ x.svc
  s1 : x.svc ≤ 9223372036854775807
theorem slist4 {α : Type} {l : List α} (h : l.length = 4) : ∃ a0 a1 a2 a3, l = [a0, a1, a2, a3] := by
  match l, h with
  | [a0, a1, a2, a3], _ => exact ⟨a0, a1, a2, a3, rfl⟩
section
variable {H : Type} {enc : TypeId × Value → H} {W : World} {B : Nat} {hd : Bool}
theorem open_sent {n : Nat} {cs : List Value} {y : DataW H × List MemPlace} (h : DataW.trod enc Try.prog W B (fun _ => true) hd n 69 cs = some y) : ∃ a : Sn, cs = encS a ∧ a.ok := by
  obtain ⟨xs, k, _, rfl, hlen, hxl, hg⟩ := DataW.trod_struct Try.underlying69 h
  have hC : Try.prog.cellsOf 69 = 4 := by kernel_rfl
  have hC1 : Try.prog.cellsOf 3 = 1 := by kernel_rfl
  have hC5 : Try.prog.cellsOf 9 = 1 := by kernel_rfl
  rw [hC] at hlen
  obtain ⟨c0, c1, c2, c3, rfl⟩ := slist4 hlen
  obtain ⟨y0, y1, y2, y3, rfl⟩ := slist4 hxl
  have g0 := hfld14 (ty := 3) (o := 0) (r := some y0) (hg 0 _ rfl) hC1 [c0] rfl
  have g1 := hfld14 (ty := 3) (o := 1) (r := some y1) (hg 1 _ rfl) hC1 [c1] rfl
  have g2 := hfld14 (ty := 3) (o := 2) (r := some y2) (hg 2 _ rfl) hC1 [c2] rfl
  have g3 := hfld14 (ty := 9) (o := 3) (r := some y3) (hg 3 _ rfl) hC5 [c3] rfl
  obtain ⟨f, e0, _, wf⟩ := DataW.trod_int Try.underlying3 g0
  obtain ⟨l, e1, _, wl⟩ := DataW.trod_int Try.underlying3 g1
  obtain ⟨s, e2, _, ws⟩ := DataW.trod_int Try.underlying3 g2
  obtain ⟨text, e3, _⟩ := DataW.trod_string Try.underlying9 g3
  have b0 := Go.bounds_i64 wf
  have b1 := Go.bounds_i64 wl
  have b2 := Go.bounds_i64 ws
  simp at e0 e1 e2 e3
  subst e0 e1 e2 e3
  exact ⟨⟨f, l, s, text⟩, rfl, ⟨b0.1, by show f ≤ _; omega, b1.1, by show l ≤ _; omega, b2.1, by show s ≤ _; omega⟩⟩
theorem open_l {a : Option Addr} {len cap : Nat} {d : DataW H} {p : List MemPlace} (h : DataW.Trod enc Try.prog W B (fun _ => true) hd 66 (.slice a len cap) d p) :
    ∃ l : List Sn, Lst encS 4 W a len l ∧ ∀ m ∈ l, m.ok := by
  obtain ⟨fuel, hf⟩ := h
  rcases Deep.open_slice Try.underlying66 hf with ⟨hcs, _⟩ | ⟨x, l, c, m, n, D, Pl, hcs, _, hl, hm, hmm, _, hx⟩
  · simp [Value.cells] at hcs
    obtain ⟨rfl, rfl, rfl⟩ := hcs
    exact ⟨[], ⟨rfl, fun h => by omega⟩, fun m hm => by cases hm⟩
  · simp [Value.cells] at hcs
    obtain ⟨rfl, rfl, rfl⟩ := hcs
    have hm' : m = cap := by simpa using hmm
    have hC : Try.prog.cellsOf 69 = 4 := by kernel_rfl
    have each : ∀ i, i < len → ∃ q : Sn, (∀ c v, (encS q)[c]? = some v → W.cell? (x.add (i * 4 + c)) = some v) ∧ q.ok := by
      intro i hi
      obtain ⟨cs, hc, ht⟩ := hx i (by omega)
      rw [hC] at hc
      obtain ⟨_, hlen, hcell⟩ := World.cells?_some hc
      obtain ⟨q, rfl, hq⟩ := open_sent ht
      refine ⟨q, fun c u hu => ?_, hq⟩
      have hc4 : c < 4 := (List.getElem?_eq_some_iff.1 hu).1
      have := hcell c hc4
      rw [← Go.Deep.add_add, this]
      exact hu
    obtain ⟨z, hz⟩ := Deep.choose_lt each
    refine ⟨(List.range len).map z, ⟨by simp, fun h0 => ?_⟩, fun q hq => ?_⟩
    · obtain ⟨b, o, sp⟩ := x
      have hsp : sp = none := by simpa [Addr.add] using World.cell?_spot ((hz 0 h0).1 0 _ rfl)
      subst hsp
      refine ⟨b, o, rfl, fun i k hk c v hv => ?_⟩
      rw [List.getElem?_map] at hk
      have hi : i < len := by
        rcases Nat.lt_or_ge i len with h | h
        · exact h
        · rw [List.getElem?_eq_none (by simpa using h)] at hk; cases hk
      rw [List.getElem?_range hi] at hk
      have hk' : z i = k := by simpa using hk
      subst hk'
      have := (hz i hi).1 c v hv
      rw [add_lit10] at this
      rw [Nat.add_assoc]; exact this
    · obtain ⟨i, hi, rfl⟩ := List.mem_map.1 hq
      exact (hz i (List.mem_range.1 hi)).2
end
structure InO (w : World) (ao : Option Addr) (len : Nat) (l : List Nat) : Prop where
  size : l.length = len
  src : ∀ (k x : Nat), l[k]? = some x → ∃ b o, ao = some ⟨b, o, none⟩ ∧ w.cell? ⟨b, o + k, none⟩ = some (.int .u8 (x : Int))
  bd : ∀ x ∈ l, x < 256
  le : len ≤ maxLen
theorem InO.below {w w' : World} {ao : Option Addr} {len : Nat} {l : List Nat} (h : InO w ao len l) (hb : Below w.heap.size w w') : InO w' ao len l :=
  ⟨h.size, fun k x hk => let ⟨b, o, e, hc⟩ := h.src k x hk; ⟨b, o, e, cell_later hb hc⟩, h.bd, h.le⟩
section
open Go.ChangeShapes Go.WideShapes Go.ChangeAt Go.Joins Go.Deep
theorem open_sees {H : Type} {enc : TypeId × Value → H} {W : World} {B : Nat} {hd : Bool} {a : Option Addr} {len cap : Nat} {d : DataW H} {p : List MemPlace}
    (h : DataW.Trod enc Try.prog W B (fun _ => true) hd 67 (.slice a len cap) d p) : ∃ l : List Nat, InO W a len l := by
  obtain ⟨fuel, hf⟩ := h
  rcases open_ints Try.underlying67 Try.underlying5 (by kernel_rfl) hf with ⟨hcs, _⟩ | ⟨x, l, c, zs, hcs, _, hl, hm, hz, _, hcell, hwz⟩
  · simp [Value.cells] at hcs
    obtain ⟨rfl, rfl, rfl⟩ := hcs
    exact ⟨[], ⟨rfl, fun k x hk => (by simp at hk), fun x hx => (by cases hx), (by decide)⟩⟩
  · simp [Value.cells] at hcs
    obtain ⟨rfl, rfl, rfl⟩ := hcs
    have hz' : zs.length = cap := by simpa using hz
    have hc : ∀ i, i < len → W.cell? (x.add i) = some (.int .u8 (zs.getD i 0)) := fun i hi => hcell i (by omega)
    have hb : ∀ i, i < len → 0 ≤ zs.getD i 0 ∧ zs.getD i 0 < 256 := fun i hi => by
      have := Go.bounds_u8 (hwz (zs.getD i 0) (by rw [List.getD_eq_getElem?_getD, List.getElem?_eq_getElem (by omega)]; simp))
      omega
    refine ⟨(List.range len).map (fun i => (zs.getD i 0).toNat), by simp, fun k y hk => ?_, fun y hy => ?_, Nat.le_trans hl hm⟩
    · have hi : k < len := by
        rcases Nat.lt_or_ge k len with h | h
        · exact h
        · rw [List.getElem?_eq_none (by simpa using h)] at hk; cases hk
      rw [List.getElem?_map, List.getElem?_range hi] at hk
      simp only [Option.map_some, Option.some.injEq] at hk
      subst hk
      have h0 := hc k hi
      obtain ⟨b, o, sp⟩ := x
      have hsp : sp = none := by simpa [Addr.add] using World.cell?_spot (hc 0 (by omega))
      subst hsp
      rw [add_lit10] at h0
      refine ⟨b, o, rfl, ?_⟩
      rw [h0]
      have := hb k hi
      congr 2
      omega
    · obtain ⟨i, hi, rfl⟩ := List.mem_map.1 hy
      have := hb i (List.mem_range.1 hi)
      omega
end
theorem open_a {H : Type} {enc : TypeId × Value → H} {W : World} {B : Nat} {hd : Bool} {a : Option Addr} {len cap : Nat} {d : DataW H} {p : List MemPlace}
    (h : DataW.Trod enc Try.prog W B (fun _ => true) hd 67 (.slice a len cap) d p) : ∃ l : List Nat, InO W a len l := open_sees h
theorem open_b {H : Type} {enc : TypeId × Value → H} {W : World} {B : Nat} {hd : Bool} {a : Option Addr} {len cap : Nat} {d : DataW H} {p : List MemPlace}
    (h : DataW.Trod enc Try.prog W B (fun _ => true) hd 67 (.slice a len cap) d p) : ∃ l : List Nat, InO W a len l := open_sees h
end Go.Proofs.Ytlkmenjalpmipaa
