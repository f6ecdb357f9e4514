/- Layer 16: what came in, opened: configurations, scripts of acts; how much there is of each row. -/
import Derived.Test.YtmaiphgmnammgaaDoorZGaAwake
import Derived.Test.YtmaiphgmnammgaaDoorRows
import Derived.Deep.SlicePairs
import Derived.Lib.SmallJoins
import Derived.ChangeSlices
set_option linter.unusedVariables false
set_option maxRecDepth 100000
set_option linter.unusedSimpArgs false
namespace Go.Proofs.YtmaiphgmnammgaaDoor
open Go.ChangeShapes Go.WideShapes Go.ChangeAt Go.RowKit Go.Joins Go.Deep

/-- An act: readiness of p, or the exchange x. -/
structure GA where
  rd : Bool
  p : Int
  x : Xg
def encGA (a : GA) : List Value := [.bool a.rd, .int .i64 a.p, .int .i64 a.x.w, .int .u64 a.x.oe, .int .i64 a.x.op, .slice a.x.a a.x.n a.x.c, .int .u64 a.x.k.n, .int .i64 a.x.k.p]
theorem encGA_length (a : GA) : (encGA a).length = 8 := rfl
structure GA.ok (w : World) (a : GA) : Prop where
  p : I64k a.p
  x : XI w a.x
theorem GA.ok.below {w w' : World} {a : GA} (h : a.ok w) (hb : Below w.heap.size w w') : a.ok w' := ⟨h.p, h.x.below hb⟩
instance : Inhabited GA := ⟨⟨false, 0, zeroX⟩⟩
section
variable {H : Type}
/-- Each row of it is within a machine's reach. -/
def SzD (t : TypeId) (d : DataW H) : Prop := (DataW.weights Tryd.prog t d).all (· ≤ reachBytes) = true
theorem szs_all {e : TypeId} {l : List (DataW H)} (h : (DataW.weightsAll Tryd.prog e l).all (· ≤ reachBytes) = true) : ∀ d ∈ l, SzD e d := by
  induction l with
  | nil => intro d hd; cases hd
  | cons x r ih =>
    simp only [DataW.weightsAll, List.all_append, Bool.and_eq_true] at h
    intro d hd
    rcases List.mem_cons.1 hd with rfl | hd
    · exact h.1
    · exact ih h.2 d hd
theorem szs_each {ts : List TypeId} {l : List (DataW H)} (h : (DataW.weightsEach Tryd.prog ts l).all (· ≤ reachBytes) = true) : ∀ (j : Nat) t d, ts[j]? = some t → l[j]? = some d → SzD t d := by
  induction ts generalizing l with
  | nil => intro j t d ht; simp at ht
  | cons u ts ih =>
    cases l with
    | nil => intro j t d _ hd; simp at hd
    | cons x r =>
      simp only [DataW.weightsEach, List.all_append, Bool.and_eq_true] at h
      intro j t d ht hd
      cases j with
      | zero =>
        simp only [List.getElem?_cons_zero, Option.some.injEq] at ht hd
        subst ht hd
        exact h.1
      | succ j => exact ih h.2 j t d (by simpa using ht) (by simpa using hd)
theorem sz_slice {t e : TypeId} (ht : Tryd.prog.underlying t = some (.slice e)) {elems spare : List (DataW H)} (h : SzD t (.slice elems spare)) : (elems.length + spare.length) * Tryd.prog.bytesOf e ≤ reachBytes ∧ ∀ d ∈ elems, SzD e d := by
  unfold SzD at h
  simp only [DataW.weights, ht, List.all_cons, List.all_append, Bool.and_eq_true, decide_eq_true_eq] at h
  exact ⟨h.1, szs_all h.2.1⟩
theorem sz_struct {t : TypeId} {fs : Array Field} (ht : Tryd.prog.underlying t = some (.struct fs)) {parts : List (DataW H)} (h : SzD t (.agg parts)) (j : Nat) (f : Field) (d : DataW H) (hf : fs.toList[j]? = some f) (hd : parts[j]? = some d) : SzD f.type d := by
  unfold SzD at h
  simp only [DataW.weights, ht] at h
  exact szs_each h j _ _ (by rw [List.getElem?_map, hf]; rfl) hd
end
section
variable {H : Type} {enc : TypeId × Value → H} {W : World} {B : Nat} {hd : Bool}
theorem open_nums16 {n : Nat} {v : Value} {y : DataW H × List MemPlace} (h : DataW.trod enc Tryd.prog W B (fun _ => true) hd n 34 [v] = some y) (hz : SzD 34 y.1) :
    ∃ (a : Option Addr) (dl dc : Nat) (deps : List Int), v = .slice a dl dc ∧ dl ≤ 35184372087808 ∧ Lst (fun n : Int => [.int .u32 n]) 1 W a dl deps ∧ ∀ d ∈ deps, 0 ≤ d ∧ d < 4294967296 := by
  rcases open_ints Tryd.underlying34 Tryd.underlying52 (by kernel_rfl) h with ⟨hcs, _⟩ | ⟨x, l, c, zs, hcs, _, hl, hm, hzl, rfl, hcell, hwz⟩
  · simp only [List.cons.injEq, and_true] at hcs
    exact ⟨none, 0, 0, [], hcs, by omega, ⟨rfl, fun h => by omega⟩, fun d hd => by cases hd⟩
  · simp only [List.cons.injEq, and_true] at hcs
    have hz' : zs.length = c := by simpa using hzl
    have h1 := (sz_slice Tryd.underlying34 hz).1
    rw [show Tryd.prog.bytesOf 52 = 4 by kernel_rfl] at h1
    simp only [lits, List.length_map, List.length_take, List.length_drop, reachBytes] at h1
    exact ⟨some x, l, c, zs.take l, hcs, by omega, ints_lstx (by omega) hcell, fun d hd => by have := wf_u32x (hwz d (List.mem_of_mem_take hd)); omega⟩
set_option maxRecDepth 100000 in
theorem open_px16 {n : Nat} {cs : List Value} {y : DataW H × List MemPlace} (h : DataW.trod enc Tryd.prog W B (fun _ => true) hd n 38 cs = some y) (hz : SzD 38 y.1) :
    ∃ x : Xg, cs = encXg x ∧ XI W x := by
  obtain ⟨xs, k, _, rfl, hlen, hxl, hg⟩ := DataW.trod_struct Tryd.underlying38 h
  have hC : Tryd.prog.cellsOf 38 = 6 := by kernel_rfl
  have hC1 : Tryd.prog.cellsOf 3 = 1 := by kernel_rfl
  have hC2 : Tryd.prog.cellsOf 24 = 2 := by kernel_rfl
  have hC3 : Tryd.prog.cellsOf 34 = 1 := by kernel_rfl
  have hC4 : Tryd.prog.cellsOf 36 = 2 := by kernel_rfl
  rw [hC] at hlen
  obtain ⟨c0, c1, c2, c3, c4, c5, rfl⟩ := list6x hlen
  obtain ⟨y0, y1, y2, y3, rfl⟩ := list4x hxl
  have hz2 : SzD 34 y2.1 := sz_struct Tryd.underlying38 hz 2 _ _ rfl rfl
  have g0 := fldx (ty := 3) (o := 0) (r := some y0) (hg 0 _ rfl) hC1 [c0] rfl
  have g1 := fldx (ty := 24) (o := 1) (r := some y1) (hg 1 _ rfl) hC2 [c1, c2] rfl
  have g2 := fldx (ty := 34) (o := 3) (r := some y2) (hg 2 _ rfl) hC3 [c3] rfl
  have g3 := fldx (ty := 36) (o := 4) (r := some y3) (hg 3 _ rfl) hC4 [c4, c5] rfl
  obtain ⟨f, e0, _, w0⟩ := DataW.trod_int Tryd.underlying3 g0
  obtain ⟨ce, cr, e1⟩ := open_pcx g1
  obtain ⟨va, vn, vc, l, e2, hle, hv, hb⟩ := open_nums16 g2 hz2
  obtain ⟨ls, lf, e3⟩ := open_keyx g3
  simp at e0 e1 e3
  obtain ⟨rfl, rfl⟩ := e1
  obtain ⟨rfl, rfl⟩ := e3
  subst e0 e2
  have hb0 := Go.bounds_i64 w0
  exact ⟨⟨f, ce, cr, va, vn, vc, l, ⟨ls, lf⟩⟩, rfl, ⟨hv, hle, hb, ⟨hb0.1, hb0.2⟩⟩⟩
theorem list8x {α : Type} {l : List α} (h : l.length = 8) : ∃ a0 a1 a2 a3 a4 a5 a6 a7, l = [a0, a1, a2, a3, a4, a5, a6, a7] := by
  match l, h with
  | [a0, a1, a2, a3, a4, a5, a6, a7], _ => exact ⟨a0, a1, a2, a3, a4, a5, a6, a7, rfl⟩
theorem list3x {α : Type} {l : List α} (h : l.length = 3) : ∃ a0 a1 a2, l = [a0, a1, a2] := by
  match l, h with
  | [a0, a1, a2], _ => exact ⟨a0, a1, a2, rfl⟩
theorem open_gact {n : Nat} {cs : List Value} {y : DataW H × List MemPlace} (h : DataW.trod enc Tryd.prog W B (fun _ => true) hd n 40 cs = some y) (hz : SzD 40 y.1) :
    ∃ a : GA, cs = encGA a ∧ a.ok W := by
  obtain ⟨xs, k, _, rfl, hlen, hxl, hg⟩ := DataW.trod_struct Tryd.underlying40 h
  have hC : Tryd.prog.cellsOf 40 = 8 := by kernel_rfl
  have hC0 : Tryd.prog.cellsOf 4 = 1 := by kernel_rfl
  have hC1 : Tryd.prog.cellsOf 3 = 1 := by kernel_rfl
  have hC2 : Tryd.prog.cellsOf 38 = 6 := by kernel_rfl
  rw [hC] at hlen
  obtain ⟨c0, c1, c2, c3, c4, c5, c6, c7, rfl⟩ := list8x hlen
  obtain ⟨y0, y1, y2, rfl⟩ := list3x hxl
  have hz2 : SzD 38 y2.1 := sz_struct Tryd.underlying40 hz 2 _ _ rfl rfl
  have g0 := fldx (ty := 4) (o := 0) (r := some y0) (hg 0 _ rfl) hC0 [c0] rfl
  have g1 := fldx (ty := 3) (o := 1) (r := some y1) (hg 1 _ rfl) hC1 [c1] rfl
  have g2 := fldx (ty := 38) (o := 2) (r := some y2) (hg 2 _ rfl) hC2 [c2, c3, c4, c5, c6, c7] rfl
  obtain ⟨b, e0, _⟩ := DataW.trod_bool Tryd.underlying4 g0
  obtain ⟨p, e1, _, w1⟩ := DataW.trod_int Tryd.underlying3 g1
  obtain ⟨x, e2, hx⟩ := open_px16 g2 hz2
  simp at e0 e1
  subst e0 e1
  have hb := Go.bounds_i64 w1
  unfold encXg at e2
  exact ⟨⟨b, p, x⟩, by rw [e2]; rfl, ⟨⟨hb.1, hb.2⟩, hx⟩⟩
theorem open_gscr {a : Option Addr} {len cap : Nat} {d : DataW H} {p : List MemPlace} (h : DataW.Trod enc Tryd.prog W B (fun _ => true) hd 25 (.slice a len cap) d p) (hz : SzD 25 d) :
    ∃ l : List GA, Lst encGA 8 W a len l ∧ (∀ m ∈ l, m.ok W) ∧ len ≤ 1759218604390 := by
  obtain ⟨fuel, hf⟩ := h
  rcases Deep.open_slice Tryd.underlying25 hf with ⟨hcs, _⟩ | ⟨x, l, c, m, n, D, Pl, hcs, _, hl, hm, hmm, hdd, hx⟩
  · simp [Value.cells] at hcs
    obtain ⟨rfl, rfl, rfl⟩ := hcs
    exact ⟨[], ⟨rfl, fun h => by omega⟩, (fun m hm => by cases hm), by omega⟩
  · simp [Value.cells] at hcs
    obtain ⟨rfl, rfl, rfl⟩ := hcs
    have hm' : m = cap := by simpa using hmm
    injection hdd with hdd _
    rw [hdd] at hz
    have hzs := (sz_slice Tryd.underlying25 hz).2
    have hzn := (sz_slice Tryd.underlying25 hz).1
    rw [show Tryd.prog.bytesOf 40 = 80 by kernel_rfl] at hzn
    simp only [List.length_map, List.length_range, reachBytes] at hzn
    have hC : Tryd.prog.cellsOf 40 = 8 := by kernel_rfl
    have each : ∀ i, i < len → ∃ q : GA, (∀ c v, (encGA q)[c]? = some v → W.cell? (x.add (i * 8 + c)) = some v) ∧ q.ok W := by
      intro i hi
      obtain ⟨cs, hc, ht⟩ := hx i (by omega)
      rw [hC] at hc
      obtain ⟨_, hlen, hcell⟩ := World.cells?_some hc
      obtain ⟨q, rfl, hq⟩ := open_gact ht (hzs _ (List.mem_map.2 ⟨i, List.mem_range.2 hi, rfl⟩))
      refine ⟨q, fun c u hu => ?_, hq⟩
      have hc10 : c < 8 := (List.getElem?_eq_some_iff.1 hu).1
      have := hcell c hc10
      rw [← Go.Deep.add_add, this]
      exact hu
    obtain ⟨z, hz⟩ := Deep.choose_lt each
    refine ⟨(List.range len).map z, ⟨by simp, fun h0 => ?_⟩, fun q hq => ?_, by omega⟩
    · obtain ⟨b, o, sp⟩ := x
      have hsp : sp = none := by simpa [Addr.add] using World.cell?_spot ((hz 0 h0).1 0 _ rfl)
      subst hsp
      refine ⟨b, o, rfl, fun i k hk c v hv => ?_⟩
      rw [List.getElem?_map] at hk
      have hi : i < len := by
        rcases Nat.lt_or_ge i len with h | h
        · exact h
        · rw [List.getElem?_eq_none (by simpa using h)] at hk; cases hk
      rw [List.getElem?_range hi] at hk
      have hk' : z i = k := by simpa using hk
      subst hk'
      have := (hz i hi).1 c v hv
      rw [add_flatx] at this
      rw [Nat.add_assoc]; exact this
    · obtain ⟨i, hi, rfl⟩ := List.mem_map.1 hq
      exact (hz i (List.mem_range.1 hi)).2
theorem open_conf {B0 : Nat} {v : Value} {d : DataW H} {p : List MemPlace} (hv : Value.okWide Tryd.prog W .any B0 24 v) (h : DataW.Trod enc Tryd.prog W B (fun _ => true) hd 24 v d p) : ∃ (n : Int) (q : Int), v = .agg #[.int .u64 n, .int .i64 q] := by
  obtain ⟨c0, c1, y0, y1, m, rfl, _, _, hy0, hy1⟩ := open_agg2 Tryd.underlying24 (by kernel_rfl) (by kernel_rfl) hv h
  obtain ⟨a, e0, _, w0⟩ := DataW.trod_int Tryd.underlying22 hy0
  obtain ⟨b, e1, _, _⟩ := DataW.trod_int Tryd.underlying3 hy1
  simp only [List.cons.injEq, and_true] at e0 e1
  exact ⟨a, b, by rw [e0, e1]⟩
end
end Go.Proofs.YtmaiphgmnammgaaDoor
