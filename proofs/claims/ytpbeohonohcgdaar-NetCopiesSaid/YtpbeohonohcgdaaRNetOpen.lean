/- What came in, opened: a script of acts; numbers. -/
import Derived.Test.YtpbeohonohcgdaaRNetAct
import Derived.Deep.SlicePairs
import Derived.Lib.SmallJoins
import Derived.ChangeSlices
set_option linter.unusedVariables false
set_option linter.unusedSimpArgs false
namespace Go.Proofs.YtpbeohonohcgdaaR
open Go.ChangeShapes Go.WideShapes Go.ChangeAt Go.RowKit Go.Joins Go.Deep

theorem nlist4 {α : Type} {l : List α} (h : l.length = 4) : ∃ a0 a1 a2 a3, l = [a0, a1, a2, a3] := by
  match l, h with
  | [a0, a1, a2, a3], _ => exact ⟨a0, a1, a2, a3, rfl⟩
theorem nlist6 {α : Type} {l : List α} (h : l.length = 6) : ∃ a0 a1 a2 a3 a4 a5, l = [a0, a1, a2, a3, a4, a5] := by
  match l, h with
  | [a0, a1, a2, a3, a4, a5], _ => exact ⟨a0, a1, a2, a3, a4, a5, rfl⟩
theorem nlist9 {α : Type} {l : List α} (h : l.length = 9) : ∃ a0 a1 a2 a3 a4 a5 a6 a7 a8, l = [a0, a1, a2, a3, a4, a5, a6, a7, a8] := by
  match l, h with
  | [a0, a1, a2, a3, a4, a5, a6, a7, a8], _ => exact ⟨a0, a1, a2, a3, a4, a5, a6, a7, a8, rfl⟩
theorem nadd_lit (b o k : Nat) : (⟨b, o, none⟩ : Addr).add k = ⟨b, o + k, none⟩ := by cases k <;> simp [Addr.add]

instance : Inhabited Ac := ⟨⟨0, D3, 0, 0, 0, 0⟩⟩
section
variable {H : Type} {enc : TypeId × Value → H} {W : World} {B : Nat} {hd : Bool}
theorem nfld {k o n : Nat} {ty : TypeId} {cs : List Value} {r : Option (DataW H × List MemPlace)} (g : DataW.trod enc Try.prog W B (fun _ => true) hd k ty (List.take (Try.prog.cellsOf ty) (List.drop o cs)) = r) (hc : Try.prog.cellsOf ty = n) (cs' : List Value) (he : List.take n (List.drop o cs) = cs') : DataW.trod enc Try.prog W B (fun _ => true) hd k ty cs' = r := by
  rw [hc, he] at g; exact g
theorem open_dg {n : Nat} {cs : List Value} {y : DataW H × List MemPlace} (h : DataW.trod enc Try.prog W B (fun _ => true) hd n 28 cs = some y) : ∃ d : Dg, cs = encD d ∧ d.ok := by
  obtain ⟨xs, k, _, rfl, hlen, hxl, hg⟩ := DataW.trod_struct Try.underlying28 h
  have hC : Try.prog.cellsOf 28 = 4 := by kernel_rfl
  have hC1 : Try.prog.cellsOf 3 = 1 := by kernel_rfl
  have hC2 : Try.prog.cellsOf 9 = 1 := by kernel_rfl
  have hC3 : Try.prog.cellsOf 4 = 1 := by kernel_rfl
  rw [hC] at hlen
  obtain ⟨c0, c1, c2, c3, rfl⟩ := nlist4 hlen
  obtain ⟨y0, y1, y2, y3, rfl⟩ := nlist4 hxl
  have g0 := nfld (ty := 3) (o := 0) (r := some y0) (hg 0 _ rfl) hC1 [c0] rfl
  have g1 := nfld (ty := 3) (o := 1) (r := some y1) (hg 1 _ rfl) hC1 [c1] rfl
  have g2 := nfld (ty := 9) (o := 2) (r := some y2) (hg 2 _ rfl) hC2 [c2] rfl
  have g3 := nfld (ty := 4) (o := 3) (r := some y3) (hg 3 _ rfl) hC3 [c3] rfl
  obtain ⟨f, e0, _, w0⟩ := DataW.trod_int Try.underlying3 g0
  obtain ⟨t, e1, _, w1⟩ := DataW.trod_int Try.underlying3 g1
  obtain ⟨s, e2, _, w2⟩ := DataW.trod_string Try.underlying9 g2
  obtain ⟨b, e3, _⟩ := DataW.trod_bool Try.underlying4 g3
  simp at e0 e1 e2 e3
  subst e0 e1 e2 e3
  have b0 := Go.bounds_i64 w0
  have b1 := Go.bounds_i64 w1
  exact ⟨⟨f, t, s, b⟩, rfl, ⟨b0.1, by show f ≤ _; omega, b1.1, by show t ≤ _; omega, w2⟩⟩
theorem open_ac {n : Nat} {cs : List Value} {y : DataW H × List MemPlace} (h : DataW.trod enc Try.prog W B (fun _ => true) hd n 31 cs = some y) : ∃ a : Ac, cs = encAc a ∧ a.ok := by
  obtain ⟨xs, k, _, rfl, hlen, hxl, hg⟩ := DataW.trod_struct Try.underlying31 h
  have hC : Try.prog.cellsOf 31 = 9 := by kernel_rfl
  have hC1 : Try.prog.cellsOf 3 = 1 := by kernel_rfl
  have hC2 : Try.prog.cellsOf 28 = 4 := by kernel_rfl
  have hC3 : Try.prog.cellsOf 5 = 1 := by kernel_rfl
  have hC4 : Try.prog.cellsOf 29 = 1 := by kernel_rfl
  rw [hC] at hlen
  obtain ⟨c0, c1, c2, c3, c4, c5, c6, c7, c8, rfl⟩ := nlist9 hlen
  obtain ⟨y0, y1, y2, y3, y4, y5, rfl⟩ := nlist6 hxl
  have g0 := nfld (ty := 3) (o := 0) (r := some y0) (hg 0 _ rfl) hC1 [c0] rfl
  have g1 := nfld (ty := 28) (o := 1) (r := some y1) (hg 1 _ rfl) hC2 [c1, c2, c3, c4] rfl
  have g2 := nfld (ty := 3) (o := 5) (r := some y2) (hg 2 _ rfl) hC1 [c5] rfl
  have g3 := nfld (ty := 3) (o := 6) (r := some y3) (hg 3 _ rfl) hC1 [c6] rfl
  have g4 := nfld (ty := 5) (o := 7) (r := some y4) (hg 4 _ rfl) hC3 [c7] rfl
  have g5 := nfld (ty := 29) (o := 8) (r := some y5) (hg 5 _ rfl) hC4 [c8] rfl
  obtain ⟨kk, e0, _, w0⟩ := DataW.trod_int Try.underlying3 g0
  obtain ⟨d, e1, w1⟩ := open_dg g1
  obtain ⟨i, e2, _, w2⟩ := DataW.trod_int Try.underlying3 g2
  obtain ⟨t, e3, _, w3⟩ := DataW.trod_int Try.underlying3 g3
  obtain ⟨m, e4, _, w4⟩ := DataW.trod_int Try.underlying5 g4
  obtain ⟨s, e5, _, w5⟩ := DataW.trod_int Try.underlying29 g5
  simp [encD] at e0 e1 e2 e3 e4 e5
  obtain ⟨rfl, rfl, rfl, rfl⟩ := e1
  subst e0 e2 e3 e4 e5
  have b0 := Go.bounds_i64 w0
  have b2 := Go.bounds_i64 w2
  have b3 := Go.bounds_i64 w3
  have b4 := Go.bounds_u8 w4
  have b5 := Go.bounds_u64 w5
  obtain ⟨m, rfl⟩ := Int.eq_ofNat_of_zero_le (show 0 ≤ m by omega)
  obtain ⟨s, rfl⟩ := Int.eq_ofNat_of_zero_le (show 0 ≤ s by omega)
  exact ⟨⟨kk, d, i, t, m, s⟩, rfl, ⟨w1, b0.1, by show kk ≤ _; omega, b2.1, by show i ≤ _; omega, b3.1, by show t ≤ _; omega, by show m < _; omega, by show s < _; omega⟩⟩
theorem open_script {a : Option Addr} {len cap : Nat} {d : DataW H} {p : List MemPlace} (h : DataW.Trod enc Try.prog W B (fun _ => true) hd 22 (.slice a len cap) d p) :
    ∃ l : List Ac, Lst encAc 9 W a len l ∧ len ≤ maxLen ∧ ∀ m ∈ l, m.ok := by
  obtain ⟨fuel, hf⟩ := h
  rcases Deep.open_slice Try.underlying22 hf with ⟨hcs, _⟩ | ⟨x, l, c, m, n, D, Pl, hcs, _, hl, hm, hmm, _, hx⟩
  · simp [Value.cells] at hcs
    obtain ⟨rfl, rfl, rfl⟩ := hcs
    exact ⟨[], ⟨rfl, fun h => by omega⟩, by decide, fun m hm => by cases hm⟩
  · simp [Value.cells] at hcs
    obtain ⟨rfl, rfl, rfl⟩ := hcs
    have hm' : m = cap := by simpa using hmm
    have hC : Try.prog.cellsOf 31 = 9 := by kernel_rfl
    have each : ∀ i, i < len → ∃ q : Ac, (∀ c v, (encAc q)[c]? = some v → W.cell? (x.add (i * 9 + c)) = some v) ∧ q.ok := by
      intro i hi
      obtain ⟨cs, hc, ht⟩ := hx i (by omega)
      rw [hC] at hc
      obtain ⟨_, hlen, hcell⟩ := World.cells?_some hc
      obtain ⟨q, rfl, hq⟩ := open_ac ht
      refine ⟨q, fun c u hu => ?_, hq⟩
      have hc9 : c < 9 := (List.getElem?_eq_some_iff.1 hu).1
      have := hcell c hc9
      rw [← Go.Deep.add_add, this]
      exact hu
    obtain ⟨z, hz⟩ := Deep.choose_lt each
    refine ⟨(List.range len).map z, ⟨by simp, fun h0 => ?_⟩, ?_, fun q hq => ?_⟩
    · obtain ⟨b, o, sp⟩ := x
      have hsp : sp = none := by simpa [Addr.add] using World.cell?_spot ((hz 0 h0).1 0 _ rfl)
      subst hsp
      refine ⟨b, o, rfl, fun i k hk c v hv => ?_⟩
      rw [List.getElem?_map] at hk
      have hi : i < len := by
        rcases Nat.lt_or_ge i len with h | h
        · exact h
        · rw [List.getElem?_eq_none (by simpa using h)] at hk; cases hk
      rw [List.getElem?_range hi] at hk
      have hk' : z i = k := by simpa using hk
      subst hk'
      have := (hz i hi).1 c v hv
      rw [nadd_lit] at this
      rw [Nat.add_assoc]; exact this
    · exact Nat.le_trans hl hm
    · obtain ⟨i, hi, rfl⟩ := List.mem_map.1 hq
      exact (hz i (List.mem_range.1 hi)).2
end

/-- Few: some answer, and nothing else. -/
theorem lst_at {w : World} {b o len : Nat} {l : List Ac} (h : RowAt encAc 9 w b o l) (k : Nat) (a : Ac) (hk : l[k]? = some a) :
    w.cell? ⟨b, o + k * 9, none⟩ = some (.int .i64 a.kind) ∧ w.cell? ⟨b, o + k * 9 + 1, none⟩ = some (.int .i64 a.d.frm) ∧ w.cell? ⟨b, o + k * 9 + 2, none⟩ = some (.int .i64 a.d.to) ∧ w.cell? ⟨b, o + k * 9 + 3, none⟩ = some (.string a.d.data) ∧ w.cell? ⟨b, o + k * 9 + 4, none⟩ = some (.bool a.d.torn) ∧
    w.cell? ⟨b, o + k * 9 + 5, none⟩ = some (.int .i64 a.i) ∧ w.cell? ⟨b, o + k * 9 + 6, none⟩ = some (.int .i64 a.at_) ∧ w.cell? ⟨b, o + k * 9 + 7, none⟩ = some (.int .u8 (a.mask : Int)) ∧ w.cell? ⟨b, o + k * 9 + 8, none⟩ = some (.int .u64 (a.s : Int)) :=
  ⟨h k a hk 0 _ rfl, h k a hk 1 _ rfl, h k a hk 2 _ rfl, h k a hk 3 _ rfl, h k a hk 4 _ rfl, h k a hk 5 _ rfl, h k a hk 6 _ rfl, h k a hk 7 _ rfl, h k a hk 8 _ rfl⟩
set_option maxHeartbeats 2000000 in
set_option maxRecDepth 100000 in
theorem nfew (ao : Option Addr) (len cap : Nat) (l : List Ac) (w : World) (h : Lst encAc 9 w ao len l) (hl : len ≤ maxLen) (hok : ∀ m ∈ l, m.ok) :
    Calls Try.prog 8 #[.slice ao len cap] w fun e w' => SomeB e ∧ w = w' := by
  have HS := Lib.hid h.src
  have hsz := h.size
  clear h
  unfold maxLen at hl
  go_enter Try.func8, Try.ntmps8
  go_wp2
  go_loop [3, 4] (fun n i => ∃ (k : Nat) (s : Int), k ≤ len ∧ i = .int .i64 k ∧ n = .int .i64 s ∧ 0 ≤ s ∧ s ≤ 50000) (fun _ i => len - (intOf i).toNat)
  case atStart => exact ⟨0, 0, Nat.zero_le _, rfl, rfl, by decide, by decide⟩
  case round =>
    obtain ⟨k, s, hk, rfl, rfl, hs0, hs1⟩ := hrel
    by_cases hlt : k < len
    · obtain ⟨b, o, rfl, R⟩ := HS.out (by omega)
      have hkl : k < l.length := by omega
      have c := (lst_at (len := len) R k l[k] (List.getElem?_eq_getElem hkl)).2.2.2.1
      generalize l[k].d.data = t at *
      clear R hkl
      obtain ⟨q, hmin, hq0, hq1⟩ : ∃ q : Int, min (t.size : Int) 50000 = q ∧ 0 ≤ q ∧ q ≤ 50000 := ⟨_, rfl, by omega, by omega⟩
      go_wp2
      all_goals first
        | (go_round
           case rel => exact ⟨k + 1, _, by omega, by go_num, rfl, by omega, by omega⟩
           case measure => simp [intOf]; omega)
        | (go_ret; exact ⟨⟨_, rfl⟩, rfl⟩)
    · go_wp2
      go_ret
      exact ⟨⟨_, rfl⟩, rfl⟩
end Go.Proofs.YtpbeohonohcgdaaR
