/- What came in, opened: a packet. -/
import Derived.Test.YtgkddjapcdjalaaPkVal
import Derived.Test.YtgkddjapcdjalaaRows
import Derived.Test.YtgkddjapcdjalaaWrAll
import Derived.Deep.SlicePairs
import Derived.Lib.SmallJoins
import Derived.ChangeSlices
set_option linter.unusedVariables false
set_option linter.unusedSimpArgs false
namespace Go.Proofs.Ytgkddjapcdjalaa
open Go.ChangeShapes Go.WideShapes Go.ChangeAt Go.RowKit Go.Joins Go.Deep

section
variable {H : Type}
theorem bulk_one (d : DataW H) : 1 ≤ Rows.uptoBulk d := by
  cases d with
  | lit l => cases l <;> simp [Rows.uptoBulk]
  | nil => simp [Rows.uptoBulk]
  | ptr d => simp [Rows.uptoBulk]
  | slice elems spare => simp [Rows.uptoBulk]
  | agg parts => simp [Rows.uptoBulk]
  | iface t d => simp [Rows.uptoBulk]
  | map entries => simp [Rows.uptoBulk]
  | held h => simp [Rows.uptoBulk]
theorem bulk_part {d : DataW H} {l : List (DataW H)} (h : d ∈ l) : Rows.uptoBulk d ≤ Rows.uptoBulkAll l := by
  induction l with
  | nil => cases h
  | cons x r ih =>
    simp only [Rows.uptoBulkAll]
    rcases List.mem_cons.1 h with e | e
    · subst e; omega
    · have := ih e; omega
theorem bulk_length (l : List (DataW H)) : l.length ≤ Rows.uptoBulkAll l := by
  induction l with
  | nil => simp [Rows.uptoBulkAll]
  | cons x r ih => have := bulk_one x; simp only [Rows.uptoBulkAll, List.length_cons]; omega
theorem bulk_slice (elems spare : List (DataW H)) : Rows.uptoBulkAll elems ≤ Rows.uptoBulk (.slice elems spare) := by
  simp only [Rows.uptoBulk]; omega
theorem bulk_agg {d : DataW H} {l : List (DataW H)} (h : d ∈ l) : Rows.uptoBulk d ≤ Rows.uptoBulk (.agg l) := by
  have := bulk_part h
  simp only [Rows.uptoBulk]; omega
theorem bulk_at {y : DataW H × List MemPlace} {xs : List (DataW H × List MemPlace)} {i : Nat} (h : xs[i]? = some y) : Rows.uptoBulk y.1 ≤ Rows.uptoBulk (DataW.agg (xs.map (·.1))) :=
  bulk_agg (List.mem_map.2 ⟨y, List.mem_of_getElem? h, rfl⟩)
end

theorem add_flat' (b o j : Nat) : (⟨b, o, none⟩ : Addr).add j = ⟨b, o + j, none⟩ := by cases j <;> simp [Addr.add]
theorem lt8 {e : Nat} (h : (e : Int) ≤ 18446744073709551615) : e < 256 ^ 8 := by
  have e8 : (256 : Nat) ^ 8 = 18446744073709551616 := by decide
  omega
theorem lt4 {e : Nat} (h : (e : Int) ≤ 4294967295) : e < 256 ^ 4 := by
  have e4 : (256 : Nat) ^ 4 = 4294967296 := by decide
  omega
theorem list2 {α : Type} {l : List α} (h : l.length = 2) : ∃ a0 a1, l = [a0, a1] := by
  match l, h with
  | [a0, a1], _ => exact ⟨a0, a1, rfl⟩
theorem list4 {α : Type} {l : List α} (h : l.length = 4) : ∃ a0 a1 a2 a3, l = [a0, a1, a2, a3] := by
  match l, h with
  | [a0, a1, a2, a3], _ => exact ⟨a0, a1, a2, a3, rfl⟩
theorem list6 {α : Type} {l : List α} (h : l.length = 6) : ∃ a0 a1 a2 a3 a4 a5, l = [a0, a1, a2, a3, a4, a5] := by
  match l, h with
  | [a0, a1, a2, a3, a4, a5], _ => exact ⟨a0, a1, a2, a3, a4, a5, rfl⟩
set_option maxRecDepth 10000 in
theorem list15 {α : Type} {l : List α} (h : l.length = 15) : ∃ a0 a1 a2 a3 a4 a5 a6 a7 a8 a9 a10 a11 a12 a13 a14, l = [a0, a1, a2, a3, a4, a5, a6, a7, a8, a9, a10, a11, a12, a13, a14] := by
  match l, h with
  | [a0, a1, a2, a3, a4, a5, a6, a7, a8, a9, a10, a11, a12, a13, a14], _ => exact ⟨a0, a1, a2, a3, a4, a5, a6, a7, a8, a9, a10, a11, a12, a13, a14, rfl⟩
set_option maxRecDepth 10000 in
theorem list22 {α : Type} {l : List α} (h : l.length = 22) : ∃ a0 a1 a2 a3 a4 a5 a6 a7 a8 a9 a10 a11 a12 a13 a14 a15 a16 a17 a18 a19 a20 a21, l = [a0, a1, a2, a3, a4, a5, a6, a7, a8, a9, a10, a11, a12, a13, a14, a15, a16, a17, a18, a19, a20, a21] := by
  match l, h with
  | [a0, a1, a2, a3, a4, a5, a6, a7, a8, a9, a10, a11, a12, a13, a14, a15, a16, a17, a18, a19, a20, a21], _ => exact ⟨a0, a1, a2, a3, a4, a5, a6, a7, a8, a9, a10, a11, a12, a13, a14, a15, a16, a17, a18, a19, a20, a21, rfl⟩
theorem wf_u32 {z : Int} (h : (Lit.int .u32 z).wf = true) : 0 ≤ z ∧ z ≤ 4294967295 := by simpa [Lit.wf, IntKind.min, IntKind.max, IntKind.signed, IntKind.bits] using h
theorem wf_u64 {z : Int} (h : (Lit.int .u64 z).wf = true) : 0 ≤ z ∧ z ≤ 18446744073709551615 := by simpa [Lit.wf, IntKind.min, IntKind.max, IntKind.signed, IntKind.bits] using h

section
variable {H : Type} {enc : TypeId × Value → H} {W : World} {B : Nat} {hd : Bool}
theorem fld {k o n : Nat} {ty : TypeId} {cs : List Value} {r : Option (DataW H × List MemPlace)} (g : DataW.trod enc Try.prog W B (fun _ => true) hd k ty (List.take (Try.prog.cellsOf ty) (List.drop o cs)) = r) (hc : Try.prog.cellsOf ty = n) (cs' : List Value) (he : List.take n (List.drop o cs) = cs') : DataW.trod enc Try.prog W B (fun _ => true) hd k ty cs' = r := by
  rw [hc, he] at g; exact g
theorem open_vec {n : Nat} {v : Value} {y : DataW H × List MemPlace} (h : DataW.trod enc Try.prog W B (fun _ => true) hd n 30 [v] = some y) :
    ∃ (vc : Vc) (l : List Nat), v = .slice vc.a vc.n vc.c ∧ VecAt W vc l ∧ l.length ≤ Rows.uptoBulk y.1 := by
  rcases open_ints Try.underlying30 Try.underlying29 (by kernel_rfl) h with ⟨hcs, rfl⟩ | ⟨x, len, c, zs, hcs, _, hl, hm, hz, rfl, hcell, hwz⟩
  · simp only [List.cons.injEq, and_true] at hcs
    exact ⟨Vc.nil, [], hcs, (OwnVec.nil 0 W).at_, Nat.zero_le _⟩
  · simp only [List.cons.injEq, and_true] at hcs
    have hz' : zs.length = c := by simpa using hz
    refine ⟨⟨some x, len, c⟩, (zs.take len).map Int.toNat, hcs, ⟨by simp; omega, fun j z hj => ?_, fun z hz => ?_, fun h => by cases h⟩, ?_⟩
    · rw [List.getElem?_map, List.getElem?_take] at hj
      by_cases hjl : j < len
      · rw [if_pos hjl] at hj
        have hjz : j < zs.length := by omega
        rw [List.getElem?_eq_getElem hjz] at hj
        have he : zs[j].toNat = z := by simpa using hj
        have hc := hcell j hjz
        have hb := wf_u32 (hwz zs[j] (List.getElem_mem hjz))
        have hg : zs.getD j 0 = (z : Int) := by
          rw [List.getD_eq_getElem?_getD, List.getElem?_eq_getElem hjz]
          show zs[j] = (z : Int)
          omega
        rw [hg] at hc
        obtain ⟨b, o, sp⟩ := x
        have hsp : sp = none := by simpa [Addr.add] using World.cell?_spot (hcell 0 (by omega))
        subst hsp
        rw [add_flat'] at hc
        exact ⟨b, o, rfl, hc⟩
      · rw [if_neg hjl] at hj; simp at hj
    · obtain ⟨w, hw, rfl⟩ := List.mem_map.1 hz
      have hb := wf_u32 (hwz w (List.mem_of_mem_take hw))
      have e : (256 : Nat) ^ 4 = 4294967296 := by decide
      omega
    · refine Nat.le_trans ?_ (bulk_slice _ _)
      refine Nat.le_trans ?_ (bulk_length _)
      simp [lits]
set_option maxRecDepth 100000 in
theorem open_pc {n : Nat} {cs : List Value} {y : DataW H × List MemPlace} (h : DataW.trod enc Try.prog W B (fun _ => true) hd n 28 cs = some y) : ∃ c : PC, cs = [.int .u64 (c.e : Int), .int .i64 c.r] ∧ c.typed := by
  obtain ⟨xs, k, _, _, hlen, hxl, hg⟩ := DataW.trod_struct Try.underlying28 h
  have hC : Try.prog.cellsOf 28 = 2 := by kernel_rfl
  rw [hC] at hlen
  obtain ⟨c0, c1, rfl⟩ := list2 hlen
  obtain ⟨y0, y1, rfl⟩ := list2 hxl
  have hone : oneCellFields Try.prog _ = true := (show oneCellFields Try.prog (match Try.prog.underlying 28 with | some (.struct fs) => fs | _ => #[]) = true by kernel_rfl)
  rw [Try.underlying28] at hone
  obtain ⟨o0, k0⟩ := hone_of hone 0 _ rfl
  obtain ⟨o1, k1⟩ := hone_of hone 1 _ rfl
  have g0 := hg 0 _ rfl
  have g1 := hg 1 _ rfl
  rw [o0, k0] at g0
  rw [o1, k1] at g1
  obtain ⟨e, e0, _, w0⟩ := DataW.trod_int Try.underlying26 g0
  obtain ⟨r, e1, _⟩ := DataW.trod_int Try.underlying3 g1
  simp at e0 e1
  subst e0 e1
  have hb := wf_u64 w0
  obtain ⟨e, rfl⟩ := Int.eq_ofNat_of_zero_le hb.1
  exact ⟨⟨e, r⟩, rfl, lt8 hb.2⟩
set_option maxRecDepth 100000 in
theorem open_key8 {n : Nat} {cs : List Value} {y : DataW H × List MemPlace} (h : DataW.trod enc Try.prog W B (fun _ => true) hd n 48 cs = some y) : ∃ (ls : Nat) (lf : Int), cs = [.int .u64 (ls : Int), .int .i64 lf] ∧ ls < 256 ^ 8 := by
  obtain ⟨xs, k, _, _, hlen, hxl, hg⟩ := DataW.trod_struct Try.underlying48 h
  have hC : Try.prog.cellsOf 48 = 2 := by kernel_rfl
  rw [hC] at hlen
  obtain ⟨c0, c1, rfl⟩ := list2 hlen
  obtain ⟨y0, y1, rfl⟩ := list2 hxl
  have hone : oneCellFields Try.prog _ = true := (show oneCellFields Try.prog (match Try.prog.underlying 48 with | some (.struct fs) => fs | _ => #[]) = true by kernel_rfl)
  rw [Try.underlying48] at hone
  obtain ⟨o0, k0⟩ := hone_of hone 0 _ rfl
  obtain ⟨o1, k1⟩ := hone_of hone 1 _ rfl
  have g0 := hg 0 _ rfl
  have g1 := hg 1 _ rfl
  rw [o0, k0] at g0
  rw [o1, k1] at g1
  obtain ⟨e, e0, _, w0⟩ := DataW.trod_int Try.underlying26 g0
  obtain ⟨r, e1, _⟩ := DataW.trod_int Try.underlying3 g1
  simp at e0 e1
  subst e0 e1
  have hb := wf_u64 w0
  obtain ⟨e, rfl⟩ := Int.eq_ofNat_of_zero_le hb.1
  exact ⟨e, r, rfl, lt8 hb.2⟩
set_option maxRecDepth 100000 in
theorem open_pm {n : Nat} {cs : List Value} {y : DataW H × List MemPlace} (h : DataW.trod enc Try.prog W B (fun _ => true) hd n 32 cs = some y) :
    ∃ (m : PM) (T : ByteArray) (vd : Vc), cs = [.int .i64 m.f, .int .u32 (m.q : Int), .int .u64 (m.s : Int), .int .i64 m.v, .slice vd.a vd.n vd.c, .string T] ∧ T.data.toList = m.text ∧ VecAt W vd m.deps ∧ m.typed ∧ m.deps.length ≤ Rows.uptoBulk y.1 ∧ m.text.length ≤ Rows.uptoBulk y.1 := by
  obtain ⟨xs, k, _, rfl, hlen, hxl, hg⟩ := DataW.trod_struct Try.underlying32 h
  have hC : Try.prog.cellsOf 32 = 6 := by kernel_rfl
  rw [hC] at hlen
  obtain ⟨c0, c1, c2, c3, c4, c5, rfl⟩ := list6 hlen
  obtain ⟨y0, y1, y2, y3, y4, y5, rfl⟩ := list6 hxl
  have hone : oneCellFields Try.prog _ = true := (show oneCellFields Try.prog (match Try.prog.underlying 32 with | some (.struct fs) => fs | _ => #[]) = true by kernel_rfl)
  rw [Try.underlying32] at hone
  obtain ⟨o0, k0⟩ := hone_of hone 0 _ rfl
  obtain ⟨o1, k1⟩ := hone_of hone 1 _ rfl
  obtain ⟨o2, k2⟩ := hone_of hone 2 _ rfl
  obtain ⟨o3, k3⟩ := hone_of hone 3 _ rfl
  obtain ⟨o4, k4⟩ := hone_of hone 4 _ rfl
  obtain ⟨o5, k5⟩ := hone_of hone 5 _ rfl
  have g0 := hg 0 _ rfl
  have g1 := hg 1 _ rfl
  have g2 := hg 2 _ rfl
  have g3 := hg 3 _ rfl
  have g4 := hg 4 _ rfl
  have g5 := hg 5 _ rfl
  rw [o0, k0] at g0
  rw [o1, k1] at g1
  rw [o2, k2] at g2
  rw [o3, k3] at g3
  rw [o4, k4] at g4
  rw [o5, k5] at g5
  obtain ⟨f, e0, _⟩ := DataW.trod_int Try.underlying3 g0
  obtain ⟨q, e1, _, w1⟩ := DataW.trod_int Try.underlying29 g1
  obtain ⟨s, e2, _, w2⟩ := DataW.trod_int Try.underlying26 g2
  obtain ⟨v, e3, _⟩ := DataW.trod_int Try.underlying3 g3
  obtain ⟨vd, deps, e4, hdeps, hbd⟩ := open_vec g4
  obtain ⟨text, e5, h5, _⟩ := DataW.trod_string Try.underlying9 g5
  simp at e0 e1 e2 e3 e5
  subst e0 e1 e2 e3 e4 e5
  have hb1 := wf_u32 w1
  have hb2 := wf_u64 w2
  obtain ⟨q, rfl⟩ := Int.eq_ofNat_of_zero_le hb1.1
  obtain ⟨s, rfl⟩ := Int.eq_ofNat_of_zero_le hb2.1
  refine ⟨⟨f, q, s, v, deps, text.data.toList⟩, text, vd, rfl, rfl, hdeps, ⟨lt4 hb1.2, lt8 hb2.2, hdeps.words⟩, ?_, ?_⟩
  · exact Nat.le_trans hbd (bulk_at (i := 4) rfl)
  · have hb5 : Rows.uptoBulk y5.1 ≤ Rows.uptoBulk (DataW.agg ([y0, y1, y2, y3, y4, y5].map (·.1))) := bulk_at (i := 5) rfl
    refine Nat.le_trans ?_ hb5
    rw [h5]
    simp [Rows.uptoBulk]
set_option maxRecDepth 100000 in
theorem open_px {n : Nat} {cs : List Value} {y : DataW H × List MemPlace} (h : DataW.trod enc Try.prog W B (fun _ => true) hd n 50 cs = some y) :
    ∃ (x : PX) (vc : Vc), cs = encX x vc ∧ VecAt W vc x.cnt ∧ x.typed ∧ x.cnt.length ≤ Rows.uptoBulk y.1 := by
  obtain ⟨xs, k, _, rfl, hlen, hxl, hg⟩ := DataW.trod_struct Try.underlying50 h
  have hC : Try.prog.cellsOf 50 = 6 := by kernel_rfl
  have hC1 : Try.prog.cellsOf 3 = 1 := by kernel_rfl
  have hC2 : Try.prog.cellsOf 28 = 2 := by kernel_rfl
  have hC3 : Try.prog.cellsOf 30 = 1 := by kernel_rfl
  have hC4 : Try.prog.cellsOf 48 = 2 := by kernel_rfl
  rw [hC] at hlen
  obtain ⟨c0, c1, c2, c3, c4, c5, rfl⟩ := list6 hlen
  obtain ⟨y0, y1, y2, y3, rfl⟩ := list4 hxl
  have g0 := fld (ty := 3) (o := 0) (r := some y0) (hg 0 _ rfl) hC1 [c0] rfl
  have g1 := fld (ty := 28) (o := 1) (r := some y1) (hg 1 _ rfl) hC2 [c1, c2] rfl
  have g2 := fld (ty := 30) (o := 3) (r := some y2) (hg 2 _ rfl) hC3 [c3] rfl
  have g3 := fld (ty := 48) (o := 4) (r := some y3) (hg 3 _ rfl) hC4 [c4, c5] rfl
  obtain ⟨f, e0, _⟩ := DataW.trod_int Try.underlying3 g0
  obtain ⟨c, e1, hty⟩ := open_pc g1
  obtain ⟨vc, l, e2, hv, hbl⟩ := open_vec g2
  obtain ⟨ls, lf, e3, hls⟩ := open_key8 g3
  simp at e0 e1 e3
  obtain ⟨rfl, rfl⟩ := e1
  obtain ⟨rfl, rfl⟩ := e3
  subst e0 e2
  exact ⟨⟨f, c, l, ls, lf⟩, vc, rfl, hv, ⟨hty, hv.words, hls⟩, Nat.le_trans hbl (bulk_at (i := 2) rfl)⟩
theorem open_xs {n : Nat} {v : Value} {y : DataW H × List MemPlace} (h : DataW.trod enc Try.prog W B (fun _ => true) hd n 33 [v] = some y) :
    ∃ (vc : Vc) (l : List PX), v = .slice vc.a vc.n vc.c ∧ XsAt W vc l ∧ (∀ x ∈ l, x.typed) ∧ l.length ≤ Rows.uptoBulk y.1 ∧ ∀ x ∈ l, x.cnt.length ≤ Rows.uptoBulk y.1 := by
  rcases Deep.open_slice Try.underlying33 h with ⟨hcs, rfl⟩ | ⟨a, len, cap, m, k, D, Pl, hcs, _, hl, _, hm, rfl, hx⟩
  · simp only [List.cons.injEq, and_true] at hcs
    exact ⟨Vc.nil, [], hcs, (OwnXs.nil 0 W).at_, fun x hx => (by cases hx), Nat.zero_le _, fun x hx => (by cases hx)⟩
  · simp only [List.cons.injEq, and_true] at hcs
    have hm' : m = cap := by simpa using hm
    have hC : Try.prog.cellsOf 50 = 6 := by kernel_rfl
    have each : ∀ i, i < len → ∃ q : PX × Vc, (∀ c u, (encX q.1 q.2)[c]? = some u → W.cell? (a.add (i * 6 + c)) = some u) ∧ VecAt W q.2 q.1.cnt ∧ q.1.typed ∧ q.1.cnt.length ≤ Rows.uptoBulk (D i) := by
      intro i hi
      obtain ⟨cs, hc, ht⟩ := hx i (by omega)
      rw [hC] at hc
      obtain ⟨_, hlen, hcell⟩ := World.cells?_some hc
      obtain ⟨x, vc, rfl, hv, hty, hb⟩ := open_px ht
      refine ⟨(x, vc), fun c u hu => ?_, hv, hty, hb⟩
      have hc6 : c < 6 := (List.getElem?_eq_some_iff.1 hu).1
      have := hcell c hc6
      rw [← Go.Deep.add_add, this]
      exact hu
    obtain ⟨z, hz⟩ := Deep.choose_lt each
    have hD : ∀ i, i < len → Rows.uptoBulk (D i) ≤ Rows.uptoBulk (DataW.slice ((List.range len).map D) ((List.range (m - len)).map fun j => D (len + j))) := fun i hi =>
      Nat.le_trans (bulk_part (List.mem_map.2 ⟨i, List.mem_range.2 hi, rfl⟩)) (bulk_slice _ _)
    refine ⟨⟨some a, len, cap⟩, (List.range len).map fun i => (z i).1, hcs, ⟨by simp, fun j x hj => ?_, fun h => by cases h⟩, fun x hx => ?_, ?_, fun x hx => ?_⟩
    · rw [List.getElem?_map] at hj
      have hjl : j < len := by
        rcases Nat.lt_or_ge j len with h | h
        · exact h
        · rw [List.getElem?_eq_none (by simpa using h)] at hj; cases hj
      rw [List.getElem?_range hjl] at hj
      have hj' : (z j).1 = x := by simpa using hj
      subst hj'
      obtain ⟨h1, h2, _, _⟩ := hz j hjl
      obtain ⟨b, o, sp⟩ := a
      have hsp : sp = none := by simpa [Addr.add] using World.cell?_spot ((hz 0 (by omega)).1 0 _ rfl)
      subst hsp
      refine ⟨b, o, (z j).2, rfl, h2, fun c u hu => ?_⟩
      have := h1 c u hu
      rw [add_flat'] at this
      rw [Nat.add_assoc]; exact this
    · obtain ⟨i, hi, rfl⟩ := List.mem_map.1 hx
      exact (hz i (List.mem_range.1 hi)).2.2.1
    · refine Nat.le_trans ?_ (bulk_slice _ _)
      refine Nat.le_trans ?_ (bulk_length _)
      simp
    · obtain ⟨i, hi, rfl⟩ := List.mem_map.1 hx
      exact Nat.le_trans (hz i (List.mem_range.1 hi)).2.2.2 (hD i (List.mem_range.1 hi))
set_option maxRecDepth 100000 in
set_option maxHeartbeats 2000000 in
theorem open_pk {n : Nat} {cs : List Value} {y : DataW H × List MemPlace} (h : DataW.trod enc Try.prog W B (fun _ => true) hd n 35 cs = some y) :
    ∃ (p : Pk) (T : ByteArray) (vd vg vx : Vc), cs = encP p T vd vg vx ∧ PkAt W p T vd vg vx ∧ p.typed ∧ (Rows.uptoBulk y.1 ≤ 1048576 → Small p) := by
  obtain ⟨xs, k, _, rfl, hlen, hxl, hg⟩ := DataW.trod_struct Try.underlying35 h
  have hC : Try.prog.cellsOf 35 = 22 := by kernel_rfl
  have K1 : Try.prog.cellsOf 3 = 1 := by kernel_rfl
  have K2 : Try.prog.cellsOf 28 = 2 := by kernel_rfl
  have K6 : Try.prog.cellsOf 32 = 6 := by kernel_rfl
  have Ku : Try.prog.cellsOf 26 = 1 := by kernel_rfl
  have Kw : Try.prog.cellsOf 29 = 1 := by kernel_rfl
  have Kv : Try.prog.cellsOf 30 = 1 := by kernel_rfl
  have Kx : Try.prog.cellsOf 33 = 1 := by kernel_rfl
  rw [hC] at hlen
  obtain ⟨c0, c1, c2, c3, c4, c5, c6, c7, c8, c9, c10, c11, c12, c13, c14, c15, c16, c17, c18, c19, c20, c21, rfl⟩ := list22 hlen
  obtain ⟨y0, y1, y2, y3, y4, y5, y6, y7, y8, y9, y10, y11, y12, y13, y14, rfl⟩ := list15 hxl
  have g0 := fld (ty := 3) (o := 0) (r := some y0) (hg 0 _ rfl) K1 [c0] rfl
  have g1 := fld (ty := 3) (o := 1) (r := some y1) (hg 1 _ rfl) K1 [c1] rfl
  have g2 := fld (ty := 3) (o := 2) (r := some y2) (hg 2 _ rfl) K1 [c2] rfl
  have g3 := fld (ty := 28) (o := 3) (r := some y3) (hg 3 _ rfl) K2 [c3, c4] rfl
  have g4 := fld (ty := 32) (o := 5) (r := some y4) (hg 4 _ rfl) K6 [c5, c6, c7, c8, c9, c10] rfl
  have g5 := fld (ty := 26) (o := 11) (r := some y5) (hg 5 _ rfl) Ku [c11] rfl
  have g6 := fld (ty := 29) (o := 12) (r := some y6) (hg 6 _ rfl) Kw [c12] rfl
  have g7 := fld (ty := 30) (o := 13) (r := some y7) (hg 7 _ rfl) Kv [c13] rfl
  have g8 := fld (ty := 26) (o := 14) (r := some y8) (hg 8 _ rfl) Ku [c14] rfl
  have g9 := fld (ty := 3) (o := 15) (r := some y9) (hg 9 _ rfl) K1 [c15] rfl
  have g10 := fld (ty := 29) (o := 16) (r := some y10) (hg 10 _ rfl) Kw [c16] rfl
  have g11 := fld (ty := 26) (o := 17) (r := some y11) (hg 11 _ rfl) Ku [c17] rfl
  have g12 := fld (ty := 28) (o := 18) (r := some y12) (hg 12 _ rfl) K2 [c18, c19] rfl
  have g13 := fld (ty := 26) (o := 20) (r := some y13) (hg 13 _ rfl) Ku [c20] rfl
  have g14 := fld (ty := 33) (o := 21) (r := some y14) (hg 14 _ rfl) Kx [c21] rfl
  clear hg h
  obtain ⟨kind, e0, _⟩ := DataW.trod_int Try.underlying3 g0
  obtain ⟨frm, e1, _⟩ := DataW.trod_int Try.underlying3 g1
  obtain ⟨to, e2, _⟩ := DataW.trod_int Try.underlying3 g2
  obtain ⟨conf, e3, hconf⟩ := open_pc g3
  obtain ⟨m, T, vd, e4, hT, hdeps, hm, hbd, hbt⟩ := open_pm g4
  obtain ⟨stamp, e5, _, w5⟩ := DataW.trod_int Try.underlying26 g5
  obtain ⟨sent, e6, _, w6⟩ := DataW.trod_int Try.underlying29 g6
  obtain ⟨vg, got, e7, hgot, hbg⟩ := open_vec g7
  obtain ⟨hor, e8, _, w8⟩ := DataW.trod_int Try.underlying26 g8
  obtain ⟨whom, e9, _⟩ := DataW.trod_int Try.underlying3 g9
  obtain ⟨seq, e10, _, w10⟩ := DataW.trod_int Try.underlying29 g10
  obtain ⟨mem, e11, _, w11⟩ := DataW.trod_int Try.underlying26 g11
  obtain ⟨prom, e12, hprom⟩ := open_pc g12
  obtain ⟨epoch, e13, _, w13⟩ := DataW.trod_int Try.underlying26 g13
  obtain ⟨vx, x, e14, hx, hxt, hbx, hbc⟩ := open_xs g14
  obtain ⟨stamp, rfl⟩ := Int.eq_ofNat_of_zero_le (wf_u64 w5).1
  obtain ⟨sent, rfl⟩ := Int.eq_ofNat_of_zero_le (wf_u32 w6).1
  obtain ⟨hor, rfl⟩ := Int.eq_ofNat_of_zero_le (wf_u64 w8).1
  obtain ⟨seq, rfl⟩ := Int.eq_ofNat_of_zero_le (wf_u32 w10).1
  obtain ⟨mem, rfl⟩ := Int.eq_ofNat_of_zero_le (wf_u64 w11).1
  obtain ⟨epoch, rfl⟩ := Int.eq_ofNat_of_zero_le (wf_u64 w13).1
  simp only [List.cons.injEq, and_true] at e0 e1 e2 e3 e4 e5 e6 e8 e9 e10 e11 e12 e13
  obtain ⟨rfl, rfl⟩ := e3
  obtain ⟨rfl, rfl, rfl, rfl, rfl, rfl⟩ := e4
  obtain ⟨rfl, rfl⟩ := e12
  subst e0 e1 e2 e5 e6 e7 e8 e9 e10 e11 e13 e14
  refine ⟨⟨kind, frm, to, conf, m, stamp, sent, got, hor, whom, seq, mem, prom, epoch, x⟩, T, vd, vg, vx, rfl, ⟨hT, hdeps, hgot, hx⟩,
    ⟨hconf, hm, lt8 (wf_u64 w5).2, lt4 (wf_u32 w6).2, hgot.words, lt8 (wf_u64 w8).2, lt4 (wf_u32 w10).2, lt8 (wf_u64 w11).2, hprom, lt8 (wf_u64 w13).2, hxt⟩, fun hb => ?_⟩
  have b4 := Nat.le_trans (bulk_at (i := 4) (xs := [y0, y1, y2, y3, y4, y5, y6, y7, y8, y9, y10, y11, y12, y13, y14]) rfl) hb
  have b7 := Nat.le_trans (bulk_at (i := 7) (xs := [y0, y1, y2, y3, y4, y5, y6, y7, y8, y9, y10, y11, y12, y13, y14]) rfl) hb
  have b14 := Nat.le_trans (bulk_at (i := 14) (xs := [y0, y1, y2, y3, y4, y5, y6, y7, y8, y9, y10, y11, y12, y13, y14]) rfl) hb
  exact ⟨Nat.le_trans hbd b4, Nat.le_trans hbt b4, Nat.le_trans hbg b7, Nat.le_trans hbx b14, fun z hz => Nat.le_trans (hbc z hz) b14⟩
set_option maxRecDepth 100000 in
theorem open_packet {B0 : Nat} {v : Value} {d : DataW H} {pl : List MemPlace} (hv : Value.okWide Try.prog W .any B0 35 v) (h : DataW.Trod enc Try.prog W B (fun _ => true) hd 35 v d pl) :
    ∃ (p : Pk) (T : ByteArray) (vd vg vx : Vc), v = .agg (encP p T vd vg vx).toArray ∧ PkAt W p T vd vg vx ∧ p.typed ∧ (Rows.uptoBulk d ≤ 1048576 → Small p) := by
  obtain ⟨cs, rfl, hsz⟩ := okWide_struct Try.underlying35 hv
  obtain ⟨fuel, hf⟩ := h
  obtain ⟨p, T, vd, vg, vx, hcs, h1, h2, h3⟩ := open_pk hf
  have e : cs = (encP p T vd vg vx).toArray := by
    rw [← hcs]; simp [Value.cells]
  exact ⟨p, T, vd, vg, vx, by rw [e], h1, h2, h3⟩
end
end Go.Proofs.Ytgkddjapcdjalaa
