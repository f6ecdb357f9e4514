/- Layer 18: what came in, opened: records, views, sessions. -/
import Derived.Test.YtblefbjmjhgkkaaZVoAwake
import Derived.Test.YtblefbjmjhgkkaaRows
import Derived.Deep.SlicePairs
import Derived.Lib.SmallJoins
import Derived.ChangeSlices
set_option linter.unusedVariables false
set_option maxRecDepth 100000
set_option linter.unusedSimpArgs false
namespace Go.Proofs.Ytblefbjmjhgkkaa
open Go.ChangeShapes Go.WideShapes Go.ChangeAt Go.RowKit Go.Joins Go.Deep

instance : Inhabited Vw := ⟨zeroV⟩
instance : Inhabited Rcv := ⟨⟨⟨zeroV, []⟩, none, 0, 0⟩⟩
theorem list2o {α : Type} {l : List α} (h : l.length = 2) : ∃ a0 a1, l = [a0, a1] := by
  match l, h with
  | [a0, a1], _ => exact ⟨a0, a1, rfl⟩
theorem list3o {α : Type} {l : List α} (h : l.length = 3) : ∃ a0 a1 a2, l = [a0, a1, a2] := by
  match l, h with
  | [a0, a1, a2], _ => exact ⟨a0, a1, a2, rfl⟩
theorem list4o {α : Type} {l : List α} (h : l.length = 4) : ∃ a0 a1 a2 a3, l = [a0, a1, a2, a3] := by
  match l, h with
  | [a0, a1, a2, a3], _ => exact ⟨a0, a1, a2, a3, rfl⟩
theorem list5o {α : Type} {l : List α} (h : l.length = 5) : ∃ a0 a1 a2 a3 a4, l = [a0, a1, a2, a3, a4] := by
  match l, h with
  | [a0, a1, a2, a3, a4], _ => exact ⟨a0, a1, a2, a3, a4, rfl⟩
theorem nat_u64 {z : Int} (h : (Lit.int .u64 z).wf = true) : ∃ n : Nat, z = (n : Int) ∧ n < 18446744073709551616 := by
  have h1 : 0 ≤ z ∧ z ≤ 18446744073709551615 := by simpa [Lit.wf, IntKind.min, IntKind.max, IntKind.signed, IntKind.bits] using h
  obtain ⟨n, rfl⟩ := Int.eq_ofNat_of_zero_le h1.1
  exact ⟨n, rfl, by omega⟩
/-- A session: who comes, who of them writes, who forms. -/
structure Rn where
  m : Nat
  w : Nat
  f : Nat
def encRn (x : Rn) : List Value := [.int .u64 (x.m : Int), .int .u64 (x.w : Int), .int .u64 (x.f : Int)]
structure Rn.ok (x : Rn) : Prop where
  m : x.m < 18446744073709551616
  w : x.w < 18446744073709551616
  f : x.f < 18446744073709551616
instance : Inhabited Rn := ⟨⟨0, 0, 0⟩⟩
section
variable {H : Type}
/-- Each row of it is within a machine's reach. -/
def SzD (t : TypeId) (d : DataW H) : Prop := (DataW.weights Try.prog t d).all (· ≤ reachBytes) = true
theorem szs_all {e : TypeId} {l : List (DataW H)} (h : (DataW.weightsAll Try.prog e l).all (· ≤ reachBytes) = true) : ∀ d ∈ l, SzD e d := by
  induction l with
  | nil => intro d hd; cases hd
  | cons x r ih =>
    simp only [DataW.weightsAll, List.all_append, Bool.and_eq_true] at h
    intro d hd
    rcases List.mem_cons.1 hd with rfl | hd
    · exact h.1
    · exact ih h.2 d hd
theorem szs_each {ts : List TypeId} {l : List (DataW H)} (h : (DataW.weightsEach Try.prog ts l).all (· ≤ reachBytes) = true) : ∀ (j : Nat) t d, ts[j]? = some t → l[j]? = some d → SzD t d := by
  induction ts generalizing l with
  | nil => intro j t d ht; simp at ht
  | cons u ts ih =>
    cases l with
    | nil => intro j t d _ hd; simp at hd
    | cons x r =>
      simp only [DataW.weightsEach, List.all_append, Bool.and_eq_true] at h
      intro j t d ht hd
      cases j with
      | zero =>
        simp only [List.getElem?_cons_zero, Option.some.injEq] at ht hd
        subst ht hd
        exact h.1
      | succ j => exact ih h.2 j t d (by simpa using ht) (by simpa using hd)
theorem sz_slice {t e : TypeId} (ht : Try.prog.underlying t = some (.slice e)) {elems spare : List (DataW H)} (h : SzD t (.slice elems spare)) : (elems.length + spare.length) * Try.prog.bytesOf e ≤ reachBytes ∧ ∀ d ∈ elems, SzD e d := by
  unfold SzD at h
  simp only [DataW.weights, ht, List.all_cons, List.all_append, Bool.and_eq_true, decide_eq_true_eq] at h
  exact ⟨h.1, szs_all h.2.1⟩
theorem sz_struct {t : TypeId} {fs : Array Field} (ht : Try.prog.underlying t = some (.struct fs)) {parts : List (DataW H)} (h : SzD t (.agg parts)) (j : Nat) (f : Field) (d : DataW H) (hf : fs.toList[j]? = some f) (hd : parts[j]? = some d) : SzD f.type d := by
  unfold SzD at h
  simp only [DataW.weights, ht] at h
  exact szs_each h j _ _ (by rw [List.getElem?_map, hf]; rfl) hd
end
section
variable {H : Type} {enc : TypeId × Value → H} {W : World} {B : Nat} {hd : Bool}
theorem fldo {k o n : Nat} {ty : TypeId} {cs : List Value} {r : Option (DataW H × List MemPlace)} (g : DataW.trod enc Try.prog W B (fun _ => true) hd k ty (List.take (Try.prog.cellsOf ty) (List.drop o cs)) = r) (hc : Try.prog.cellsOf ty = n) (cs' : List Value) (he : List.take n (List.drop o cs) = cs') : DataW.trod enc Try.prog W B (fun _ => true) hd k ty cs' = r := by
  rw [hc, he] at g; exact g
theorem open_cf {n : Nat} {cs : List Value} {y : DataW H × List MemPlace} (h : DataW.trod enc Try.prog W B (fun _ => true) hd n 26 cs = some y) : ∃ (e : Nat) (r : Int), cs = [.int .u64 (e : Int), .int .i64 r] ∧ e < 18446744073709551616 ∧ -9223372036854775808 ≤ r ∧ r ≤ 9223372036854775807 := by
  obtain ⟨xs, k, _, _, hlen, hxl, hg⟩ := DataW.trod_struct Try.underlying26 h
  have hC : Try.prog.cellsOf 26 = 2 := by kernel_rfl
  have hC1 : Try.prog.cellsOf 23 = 1 := by kernel_rfl
  have hC2 : Try.prog.cellsOf 3 = 1 := by kernel_rfl
  rw [hC] at hlen
  obtain ⟨c0, c1, rfl⟩ := list2o hlen
  obtain ⟨y0, y1, rfl⟩ := list2o hxl
  have g0 := fldo (ty := 23) (o := 0) (r := some y0) (hg 0 _ rfl) hC1 [c0] rfl
  have g1 := fldo (ty := 3) (o := 1) (r := some y1) (hg 1 _ rfl) hC2 [c1] rfl
  obtain ⟨e, e0, _, w0⟩ := DataW.trod_int Try.underlying23 g0
  obtain ⟨r, e1, _, w1⟩ := DataW.trod_int Try.underlying3 g1
  obtain ⟨e', rfl, he⟩ := nat_u64 w0
  have hb := Go.bounds_i64 w1
  simp at e0 e1
  subst e0 e1
  exact ⟨e', r, rfl, he, hb.1, hb.2⟩
theorem open_vw {n : Nat} {cs : List Value} {y : DataW H × List MemPlace} (h : DataW.trod enc Try.prog W B (fun _ => true) hd n 28 cs = some y) : ∃ v : Vw, cs = encV v ∧ v.ok := by
  obtain ⟨xs, k, _, _, hlen, hxl, hg⟩ := DataW.trod_struct Try.underlying28 h
  have hC : Try.prog.cellsOf 28 = 4 := by kernel_rfl
  have hC1 : Try.prog.cellsOf 23 = 1 := by kernel_rfl
  have hC2 : Try.prog.cellsOf 26 = 2 := by kernel_rfl
  rw [hC] at hlen
  obtain ⟨c0, c1, c2, c3, rfl⟩ := list4o hlen
  obtain ⟨y0, y1, y2, rfl⟩ := list3o hxl
  have g0 := fldo (ty := 23) (o := 0) (r := some y0) (hg 0 _ rfl) hC1 [c0] rfl
  have g1 := fldo (ty := 26) (o := 1) (r := some y1) (hg 1 _ rfl) hC2 [c1, c2] rfl
  have g2 := fldo (ty := 23) (o := 3) (r := some y2) (hg 2 _ rfl) hC1 [c3] rfl
  obtain ⟨a, e0, _, w0⟩ := DataW.trod_int Try.underlying23 g0
  obtain ⟨e, r, e1, he, h1, h2⟩ := open_cf g1
  obtain ⟨m, e2, _, w2⟩ := DataW.trod_int Try.underlying23 g2
  obtain ⟨a', rfl, ha⟩ := nat_u64 w0
  obtain ⟨m', rfl, hm⟩ := nat_u64 w2
  simp at e0 e1 e2
  obtain ⟨rfl, rfl⟩ := e1
  subst e0 e2
  exact ⟨⟨a', e, r, m'⟩, rfl, ⟨ha, he, h1, h2, hm⟩⟩
theorem open_vs {a : Option Addr} {len cap n : Nat} {d : DataW H} {p : List MemPlace} (hf : DataW.trod enc Try.prog W B (fun _ => true) hd n 29 [.slice a len cap] = some (d, p)) :
    ∃ l : List Vw, Lst encV 4 W a len l ∧ (a = none → cap = 0) ∧ len ≤ cap ∧ (∀ m ∈ l, m.ok) ∧ (SzD 29 d → len ≤ 4398046511104) := by
  rcases Deep.open_slice Try.underlying29 hf with ⟨hcs, _⟩ | ⟨x, l, c, m, n, D, Pl, hcs, _, hl, hm, hmm, hdd, hx⟩
  · simp at hcs
    obtain ⟨rfl, rfl, rfl⟩ := hcs
    exact ⟨[], ⟨rfl, fun h => by omega⟩, fun _ => rfl, Nat.le_refl _, (fun m hm => by cases hm), fun _ => Nat.zero_le _⟩
  · simp at hcs
    obtain ⟨rfl, rfl, rfl⟩ := hcs
    have hm' : m = cap := by simpa using hmm
    have hC : Try.prog.cellsOf 28 = 4 := by kernel_rfl
    have each : ∀ i, i < len → ∃ m : Vw, (∀ c u, (encV m)[c]? = some u → W.cell? (x.add (i * 4 + c)) = some u) ∧ (m.ok) := by
      intro i hi
      obtain ⟨cs, hc, ht⟩ := hx i (by omega)
      rw [hC] at hc
      obtain ⟨_, hlen, hcell⟩ := World.cells?_some hc
      obtain ⟨y, rfl, hy⟩ := open_vw ht
      refine ⟨y, fun c u hu => ?_, hy⟩
      have hc6 : c < 4 := (List.getElem?_eq_some_iff.1 hu).1
      have := hcell c hc6
      rw [← Go.Deep.add_add, this]
      exact hu
    obtain ⟨z, hz⟩ := Deep.choose_lt each
    refine ⟨(List.range len).map z, ⟨by simp, fun h0 => ?_⟩, (fun h => by cases h), by omega, fun m hm => ?_, fun hz => ?_⟩
    · obtain ⟨b, o, sp⟩ := x
      have hsp : sp = none := by simpa [Addr.add] using World.cell?_spot ((hz 0 (by omega)).1 0 _ rfl)
      subst hsp
      refine ⟨b, o, rfl, fun i y hy c u hu => ?_⟩
      rw [List.getElem?_map] at hy
      have hjl : i < len := by
        rcases Nat.lt_or_ge i len with h | h
        · exact h
        · rw [List.getElem?_eq_none (by simpa using h)] at hy; cases hy
      rw [List.getElem?_range hjl] at hy
      have hy' : z i = y := by simpa using hy
      subst hy'
      have := (hz i hjl).1 c u hu
      rw [add_lit18] at this
      rw [Nat.add_assoc]; exact this
    · obtain ⟨i, hi, rfl⟩ := List.mem_map.1 hm
      exact (hz i (List.mem_range.1 hi)).2
    · injection hdd with hdd _
      rw [hdd] at hz
      have h1 := (sz_slice Try.underlying29 hz).1
      rw [show Try.prog.bytesOf 28 = 32 by kernel_rfl] at h1
      simp only [List.length_map, List.length_range, reachBytes] at h1
      omega
theorem open_rec {n : Nat} {cs : List Value} {y : DataW H × List MemPlace} (h : DataW.trod enc Try.prog W B (fun _ => true) hd n 31 cs = some y) : ∃ x : Rcv, cs = encRc x ∧ RcIn W x ∧ (SzD 31 y.1 → x.k ≤ 4398046511104) := by
  obtain ⟨xs, k, _, rfl, hlen, hxl, hg⟩ := DataW.trod_struct Try.underlying31 h
  have hC : Try.prog.cellsOf 31 = 5 := by kernel_rfl
  have hC1 : Try.prog.cellsOf 28 = 4 := by kernel_rfl
  have hC2 : Try.prog.cellsOf 29 = 1 := by kernel_rfl
  rw [hC] at hlen
  obtain ⟨c0, c1, c2, c3, c4, rfl⟩ := list5o hlen
  obtain ⟨y0, y1, rfl⟩ := list2o hxl
  have g0 := fldo (ty := 28) (o := 0) (r := some y0) (hg 0 _ rfl) hC1 [c0, c1, c2, c3] rfl
  have g1 := fldo (ty := 29) (o := 4) (r := some y1) (hg 1 _ rfl) hC2 [c4] rfl
  obtain ⟨v, e0, hv⟩ := open_vw g0
  obtain ⟨d1, p1⟩ := y1
  have hs : ∃ a len cap, c4 = .slice a len cap := by
    rcases Deep.open_slice Try.underlying29 g1 with ⟨hcs, _⟩ | ⟨x, l, c, m, n, D, Pl, hcs, _⟩
    · simp at hcs; exact ⟨_, _, _, hcs⟩
    · simp at hcs; exact ⟨_, _, _, hcs⟩
  obtain ⟨a, len, cap, rfl⟩ := hs
  obtain ⟨L, hL, hnil, _, hok, hsz⟩ := open_vs g1
  unfold encV at e0
  simp only [List.cons.injEq, and_true] at e0
  obtain ⟨rfl, rfl, rfl, rfl⟩ := e0
  exact ⟨⟨⟨v, L⟩, a, len, cap⟩, rfl, ⟨⟨hL, hok⟩, hv, hnil⟩, fun hz => hsz (sz_struct Try.underlying31 hz 1 _ _ rfl rfl)⟩
theorem open_r {B0 : Nat} {v : Value} {d : DataW H} {pl : List MemPlace} (hv : Value.okWide Try.prog W .any B0 31 v) (h : DataW.Trod enc Try.prog W B (fun _ => true) hd 31 v d pl) :
    ∃ x : Rcv, v = valRc x ∧ RcIn W x := by
  obtain ⟨cs, rfl, hsz⟩ := okWide_struct Try.underlying31 hv
  obtain ⟨fuel, hf⟩ := h
  obtain ⟨x, hcs, h1, _⟩ := open_rec hf
  have e : cs = (encRc x).toArray := by
    rw [← hcs]; simp [Value.cells]
  exact ⟨x, by rw [e]; rfl, h1⟩
theorem open_v {B0 : Nat} {v : Value} {d : DataW H} {pl : List MemPlace} (hv : Value.okWide Try.prog W .any B0 28 v) (h : DataW.Trod enc Try.prog W B (fun _ => true) hd 28 v d pl) :
    ∃ x : Vw, v = valV x ∧ x.ok := by
  obtain ⟨cs, rfl, hsz⟩ := okWide_struct Try.underlying28 hv
  obtain ⟨fuel, hf⟩ := h
  obtain ⟨x, hcs, h1⟩ := open_vw hf
  have e : cs = (encV x).toArray := by
    rw [← hcs]; simp [Value.cells]
  exact ⟨x, by rw [e]; rfl, h1⟩
end
end Go.Proofs.Ytblefbjmjhgkkaa
