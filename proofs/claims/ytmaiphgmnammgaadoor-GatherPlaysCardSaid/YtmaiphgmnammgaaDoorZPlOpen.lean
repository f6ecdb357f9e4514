/- Layer 15: what came in, opened: exchanges, messages, numbers. -/
import Derived.Test.YtmaiphgmnammgaaDoorZPlAwake2
import Derived.Test.YtmaiphgmnammgaaDoorRows
import Derived.Deep.SlicePairs
import Derived.Lib.SmallJoins
import Derived.ChangeSlices
set_option linter.unusedVariables false
set_option maxRecDepth 100000
set_option linter.unusedSimpArgs false
namespace Go.Proofs.YtmaiphgmnammgaaDoor
open Go.ChangeShapes Go.WideShapes Go.ChangeAt Go.RowKit Go.Joins Go.Deep

instance : Inhabited Xg := ⟨⟨0, 0, 0, none, 0, 0, [], ⟨0, 0⟩⟩⟩
theorem add_flatx (b o j : Nat) : (⟨b, o, none⟩ : Addr).add j = ⟨b, o + j, none⟩ := by cases j <;> simp [Addr.add]
theorem list2x {α : Type} {l : List α} (h : l.length = 2) : ∃ a0 a1, l = [a0, a1] := by
  match l, h with
  | [a0, a1], _ => exact ⟨a0, a1, rfl⟩
theorem list4x {α : Type} {l : List α} (h : l.length = 4) : ∃ a0 a1 a2 a3, l = [a0, a1, a2, a3] := by
  match l, h with
  | [a0, a1, a2, a3], _ => exact ⟨a0, a1, a2, a3, rfl⟩
theorem list6x {α : Type} {l : List α} (h : l.length = 6) : ∃ a0 a1 a2 a3 a4 a5, l = [a0, a1, a2, a3, a4, a5] := by
  match l, h with
  | [a0, a1, a2, a3, a4, a5], _ => exact ⟨a0, a1, a2, a3, a4, a5, rfl⟩
theorem wf_u32x {z : Int} (h : (Lit.int .u32 z).wf = true) : 0 ≤ z ∧ z ≤ 4294967295 := by simpa [Lit.wf, IntKind.min, IntKind.max, IntKind.signed, IntKind.bits] using h
theorem wf_u64x {z : Int} (h : (Lit.int .u64 z).wf = true) : 0 ≤ z ∧ z ≤ 18446744073709551615 := by simpa [Lit.wf, IntKind.min, IntKind.max, IntKind.signed, IntKind.bits] using h
section
variable {H : Type} {enc : TypeId × Value → H} {W : World} {B : Nat} {hd : Bool}
theorem fldx {k o n : Nat} {ty : TypeId} {cs : List Value} {r : Option (DataW H × List MemPlace)} (g : DataW.trod enc Tryd.prog W B (fun _ => true) hd k ty (List.take (Tryd.prog.cellsOf ty) (List.drop o cs)) = r) (hc : Tryd.prog.cellsOf ty = n) (cs' : List Value) (he : List.take n (List.drop o cs) = cs') : DataW.trod enc Tryd.prog W B (fun _ => true) hd k ty cs' = r := by
  rw [hc, he] at g; exact g
theorem ints_lstx {k : IntKind} {x : Addr} {len : Nat} {zs : List Int} (hlen : len ≤ zs.length) (hc : ∀ i, i < zs.length → W.cell? (x.add i) = some (.int k (zs.getD i 0))) : Lst (fun n : Int => [.int k n]) 1 W (some x) len (zs.take len) := by
  refine ⟨by simp; omega, fun h0 => ?_⟩
  obtain ⟨b, o, sp⟩ := x
  have hsp : sp = none := by simpa [Addr.add] using World.cell?_spot (hc 0 (by omega))
  subst hsp
  refine ⟨b, o, rfl, fun i n hn c v hv => ?_⟩
  have hi : i < len := by
    have := (List.getElem?_eq_some_iff.1 hn).1
    rw [List.length_take] at this
    omega
  rw [List.getElem?_take, if_pos hi] at hn
  have h1 := hc i (by omega)
  rw [add_flatx, List.getD_eq_getElem?_getD, hn] at h1
  match c, hv with
  | 0, hv =>
    have : v = .int k n := by simpa using hv.symm
    rw [this, Nat.mul_one, Nat.add_zero]; exact h1
  | c + 1, hv => simp at hv
theorem open_nums {n : Nat} {v : Value} {y : DataW H × List MemPlace} (h : DataW.trod enc Tryd.prog W B (fun _ => true) hd n 34 [v] = some y) :
    ∃ (a : Option Addr) (dl dc : Nat) (deps : List Int), v = .slice a dl dc ∧ dl ≤ dc ∧ Lst (fun n : Int => [.int .u32 n]) 1 W a dl deps ∧ ∀ d ∈ deps, 0 ≤ d ∧ d < 4294967296 := by
  rcases open_ints Tryd.underlying34 Tryd.underlying52 (by kernel_rfl) h with ⟨hcs, _⟩ | ⟨x, l, c, zs, hcs, _, hl, hm, hz, _, hcell, hwz⟩
  · simp only [List.cons.injEq, and_true] at hcs
    exact ⟨none, 0, 0, [], hcs, Nat.le_refl _, ⟨rfl, fun h => by omega⟩, fun d hd => by cases hd⟩
  · simp only [List.cons.injEq, and_true] at hcs
    have hz' : zs.length = c := by simpa using hz
    exact ⟨some x, l, c, zs.take l, hcs, by omega, ints_lstx (by omega) hcell, fun d hd => by have := wf_u32x (hwz d (List.mem_of_mem_take hd)); omega⟩
set_option maxRecDepth 100000 in
theorem open_pcx {n : Nat} {cs : List Value} {y : DataW H × List MemPlace} (h : DataW.trod enc Tryd.prog W B (fun _ => true) hd n 24 cs = some y) : ∃ e r : Int, cs = [.int .u64 e, .int .i64 r] := by
  obtain ⟨xs, k, _, _, hlen, hxl, hg⟩ := DataW.trod_struct Tryd.underlying24 h
  have hC : Tryd.prog.cellsOf 24 = 2 := by kernel_rfl
  rw [hC] at hlen
  obtain ⟨c0, c1, rfl⟩ := list2x hlen
  obtain ⟨y0, y1, rfl⟩ := list2x hxl
  have hone : oneCellFields Tryd.prog _ = true := (show oneCellFields Tryd.prog (match Tryd.prog.underlying 24 with | some (.struct fs) => fs | _ => #[]) = true by kernel_rfl)
  rw [Tryd.underlying24] at hone
  obtain ⟨o0, k0⟩ := hone_of hone 0 _ rfl
  obtain ⟨o1, k1⟩ := hone_of hone 1 _ rfl
  have g0 := hg 0 _ rfl
  have g1 := hg 1 _ rfl
  rw [o0, k0] at g0
  rw [o1, k1] at g1
  obtain ⟨e, e0, _, w0⟩ := DataW.trod_int Tryd.underlying22 g0
  obtain ⟨r, e1, _⟩ := DataW.trod_int Tryd.underlying3 g1
  simp at e0 e1
  subst e0 e1
  exact ⟨e, r, rfl⟩
set_option maxRecDepth 100000 in
theorem open_keyx {n : Nat} {cs : List Value} {y : DataW H × List MemPlace} (h : DataW.trod enc Tryd.prog W B (fun _ => true) hd n 36 cs = some y) : ∃ ls lf : Int, cs = [.int .u64 ls, .int .i64 lf] := by
  obtain ⟨xs, k, _, _, hlen, hxl, hg⟩ := DataW.trod_struct Tryd.underlying36 h
  have hC : Tryd.prog.cellsOf 36 = 2 := by kernel_rfl
  rw [hC] at hlen
  obtain ⟨c0, c1, rfl⟩ := list2x hlen
  obtain ⟨y0, y1, rfl⟩ := list2x hxl
  have hone : oneCellFields Tryd.prog _ = true := (show oneCellFields Tryd.prog (match Tryd.prog.underlying 36 with | some (.struct fs) => fs | _ => #[]) = true by kernel_rfl)
  rw [Tryd.underlying36] at hone
  obtain ⟨o0, k0⟩ := hone_of hone 0 _ rfl
  obtain ⟨o1, k1⟩ := hone_of hone 1 _ rfl
  have g0 := hg 0 _ rfl
  have g1 := hg 1 _ rfl
  rw [o0, k0] at g0
  rw [o1, k1] at g1
  obtain ⟨e, e0, _, w0⟩ := DataW.trod_int Tryd.underlying22 g0
  obtain ⟨r, e1, _⟩ := DataW.trod_int Tryd.underlying3 g1
  simp at e0 e1
  subst e0 e1
  exact ⟨e, r, rfl⟩
set_option maxRecDepth 100000 in
theorem open_pxx {n : Nat} {cs : List Value} {y : DataW H × List MemPlace} (h : DataW.trod enc Tryd.prog W B (fun _ => true) hd n 38 cs = some y) :
    ∃ x : Xg, cs = encXg x ∧ XgIn W x ∧ x.ok := by
  obtain ⟨xs, k, _, rfl, hlen, hxl, hg⟩ := DataW.trod_struct Tryd.underlying38 h
  have hC : Tryd.prog.cellsOf 38 = 6 := by kernel_rfl
  have hC1 : Tryd.prog.cellsOf 3 = 1 := by kernel_rfl
  have hC2 : Tryd.prog.cellsOf 24 = 2 := by kernel_rfl
  have hC3 : Tryd.prog.cellsOf 34 = 1 := by kernel_rfl
  have hC4 : Tryd.prog.cellsOf 36 = 2 := by kernel_rfl
  rw [hC] at hlen
  obtain ⟨c0, c1, c2, c3, c4, c5, rfl⟩ := list6x hlen
  obtain ⟨y0, y1, y2, y3, rfl⟩ := list4x hxl
  have g0 := fldx (ty := 3) (o := 0) (r := some y0) (hg 0 _ rfl) hC1 [c0] rfl
  have g1 := fldx (ty := 24) (o := 1) (r := some y1) (hg 1 _ rfl) hC2 [c1, c2] rfl
  have g2 := fldx (ty := 34) (o := 3) (r := some y2) (hg 2 _ rfl) hC3 [c3] rfl
  have g3 := fldx (ty := 36) (o := 4) (r := some y3) (hg 3 _ rfl) hC4 [c4, c5] rfl
  obtain ⟨f, e0, _, w0⟩ := DataW.trod_int Tryd.underlying3 g0
  obtain ⟨ce, cr, e1⟩ := open_pcx g1
  obtain ⟨va, vn, vc, l, e2, hle, hv, hb⟩ := open_nums g2
  obtain ⟨ls, lf, e3⟩ := open_keyx g3
  simp at e0 e1 e3
  obtain ⟨rfl, rfl⟩ := e1
  obtain ⟨rfl, rfl⟩ := e3
  subst e0 e2
  have hb0 := Go.bounds_i64 w0
  exact ⟨⟨f, ce, cr, va, vn, vc, l, ⟨ls, lf⟩⟩, rfl, ⟨hle, hv, hb⟩, ⟨hb0.1, hb0.2⟩⟩
theorem open_xl {a : Option Addr} {len cap : Nat} {d : DataW H} {p : List MemPlace} (h : DataW.Trod enc Tryd.prog W B (fun _ => true) hd 31 (.slice a len cap) d p) :
    ∃ l : List Xg, Lst encXg 6 W a len l ∧ (a = none → cap = 0) ∧ len ≤ cap ∧ ∀ m ∈ l, XgIn W m ∧ m.ok := by
  obtain ⟨fuel, hf⟩ := h
  rcases Deep.open_slice Tryd.underlying31 hf with ⟨hcs, _⟩ | ⟨x, l, c, m, n, D, Pl, hcs, _, hl, hm, hmm, _, hx⟩
  · simp [Value.cells] at hcs
    obtain ⟨rfl, rfl, rfl⟩ := hcs
    exact ⟨[], ⟨rfl, fun h => by omega⟩, fun _ => rfl, Nat.le_refl _, fun m hm => by cases hm⟩
  · simp [Value.cells] at hcs
    obtain ⟨rfl, rfl, rfl⟩ := hcs
    have hm' : m = cap := by simpa using hmm
    have hC : Tryd.prog.cellsOf 38 = 6 := by kernel_rfl
    have each : ∀ i, i < len → ∃ q : Xg, (∀ c u, (encXg q)[c]? = some u → W.cell? (x.add (i * 6 + c)) = some u) ∧ (XgIn W q ∧ q.ok) := by
      intro i hi
      obtain ⟨cs, hc, ht⟩ := hx i (by omega)
      rw [hC] at hc
      obtain ⟨_, hlen, hcell⟩ := World.cells?_some hc
      obtain ⟨y, rfl, hy⟩ := open_pxx ht
      refine ⟨y, fun c u hu => ?_, hy⟩
      have hc6 : c < 6 := (List.getElem?_eq_some_iff.1 hu).1
      have := hcell c hc6
      rw [← Go.Deep.add_add, this]
      exact hu
    obtain ⟨z, hz⟩ := Deep.choose_lt each
    refine ⟨(List.range len).map z, ⟨by simp, fun h0 => ?_⟩, (fun h => by cases h), by omega, fun m hm => ?_⟩
    · obtain ⟨b, o, sp⟩ := x
      have hsp : sp = none := by simpa [Addr.add] using World.cell?_spot ((hz 0 (by omega)).1 0 _ rfl)
      subst hsp
      refine ⟨b, o, rfl, fun i y hy c u hu => ?_⟩
      rw [List.getElem?_map] at hy
      have hjl : i < len := by
        rcases Nat.lt_or_ge i len with h | h
        · exact h
        · rw [List.getElem?_eq_none (by simpa using h)] at hy; cases hy
      rw [List.getElem?_range hjl] at hy
      have hy' : z i = y := by simpa using hy
      subst hy'
      have := (hz i hjl).1 c u hu
      rw [add_flatx] at this
      rw [Nat.add_assoc]; exact this
    · obtain ⟨i, hi, rfl⟩ := List.mem_map.1 hm
      exact (hz i (List.mem_range.1 hi)).2
theorem open_xg {B0 : Nat} {v : Value} {d : DataW H} {pl : List MemPlace} (hv : Value.okWide Tryd.prog W .any B0 38 v) (h : DataW.Trod enc Tryd.prog W B (fun _ => true) hd 38 v d pl) :
    ∃ x : Xg, v = .agg (encXg x).toArray ∧ XgIn W x ∧ x.ok := by
  obtain ⟨cs, rfl, hsz⟩ := okWide_struct Tryd.underlying38 hv
  obtain ⟨fuel, hf⟩ := h
  obtain ⟨x, hcs, h1, h2⟩ := open_pxx hf
  have e : cs = (encXg x).toArray := by
    rw [← hcs]; simp [Value.cells]
  exact ⟨x, by rw [e], h1, h2⟩
theorem open_pnums {a : Option Addr} {len cap : Nat} {d : DataW H} {p : List MemPlace} (h : DataW.Trod enc Tryd.prog W B (fun _ => true) hd 34 (.slice a len cap) d p) :
    ∃ l : List Int, Lst (fun n : Int => [.int .u32 n]) 1 W a len l ∧ (a = none → cap = 0) ∧ len ≤ cap ∧ ∀ v ∈ l, 0 ≤ v ∧ v < 4294967296 := by
  obtain ⟨fuel, hf⟩ := h
  have hf2 : DataW.trod enc Tryd.prog W B (fun _ => true) hd fuel 34 [.slice a len cap] = some (d, p) := by simpa [Value.cells] using hf
  rcases open_ints Tryd.underlying34 Tryd.underlying52 (by kernel_rfl) hf2 with ⟨hcs, _⟩ | ⟨x, l, c, zs, hcs, _, hl, hm, hz, _, hcell, hwz⟩
  · simp only [List.cons.injEq, and_true] at hcs
    injection hcs with e1 e2 e3
    subst e1 e2 e3
    exact ⟨[], ⟨rfl, fun h => by omega⟩, fun _ => rfl, Nat.le_refl _, fun d hd => by cases hd⟩
  · simp only [List.cons.injEq, and_true] at hcs
    injection hcs with e1 e2 e3
    subst e1 e2 e3
    have hz' : zs.length = cap := by simpa using hz
    exact ⟨zs.take len, ints_lstx (by omega) hcell, (fun h => by cases h), by omega, fun d hd => by have := wf_u32x (hwz d (List.mem_of_mem_take hd)); omega⟩
end
end Go.Proofs.YtmaiphgmnammgaaDoor
