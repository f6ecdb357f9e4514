/- What came in, opened: a script of acts; Few. -/
import Derived.Test.YtimdemidnleiiaaDiskAct
import Derived.Deep.SlicePairs
import Derived.Lib.SmallJoins
import Derived.ChangeSlices
set_option linter.unusedVariables false
set_option linter.unusedSimpArgs false
namespace Go.Proofs.Ytimdemidnleiiaa
open Go.ChangeShapes Go.WideShapes Go.ChangeAt Go.RowKit Go.Joins Go.Deep

def encDA (x : DAc) : List Value := [.string x.data, .bool x.tear, .int .i64 x.keep]
theorem dlist3 {α : Type} {l : List α} (h : l.length = 3) : ∃ a0 a1 a2, l = [a0, a1, a2] := by
  match l, h with
  | [a0, a1, a2], _ => exact ⟨a0, a1, a2, rfl⟩
theorem dadd_lit (b o k : Nat) : (⟨b, o, none⟩ : Addr).add k = ⟨b, o + k, none⟩ := by cases k <;> simp [Addr.add]
instance : Inhabited DAc := ⟨⟨{ data := #[] }, false, 0⟩⟩
section
variable {H : Type} {enc : TypeId × Value → H} {W : World} {B : Nat} {hd : Bool}
theorem dfld {k o n : Nat} {ty : TypeId} {cs : List Value} {r : Option (DataW H × List MemPlace)} (g : DataW.trod enc Try.prog W B (fun _ => true) hd k ty (List.take (Try.prog.cellsOf ty) (List.drop o cs)) = r) (hc : Try.prog.cellsOf ty = n) (cs' : List Value) (he : List.take n (List.drop o cs) = cs') : DataW.trod enc Try.prog W B (fun _ => true) hd k ty cs' = r := by
  rw [hc, he] at g; exact g
theorem open_dac {n : Nat} {cs : List Value} {y : DataW H × List MemPlace} (h : DataW.trod enc Try.prog W B (fun _ => true) hd n 30 cs = some y) : ∃ x : DAc, cs = encDA x ∧ x.ok := by
  obtain ⟨xs, k, _, rfl, hlen, hxl, hg⟩ := DataW.trod_struct Try.underlying30 h
  have hC : Try.prog.cellsOf 30 = 3 := by kernel_rfl
  have hC1 : Try.prog.cellsOf 3 = 1 := by kernel_rfl
  have hC2 : Try.prog.cellsOf 9 = 1 := by kernel_rfl
  have hC3 : Try.prog.cellsOf 4 = 1 := by kernel_rfl
  rw [hC] at hlen
  obtain ⟨c0, c1, c2, rfl⟩ := dlist3 hlen
  obtain ⟨y0, y1, y2, rfl⟩ := dlist3 hxl
  have g0 := dfld (ty := 9) (o := 0) (r := some y0) (hg 0 _ rfl) hC2 [c0] rfl
  have g1 := dfld (ty := 4) (o := 1) (r := some y1) (hg 1 _ rfl) hC3 [c1] rfl
  have g2 := dfld (ty := 3) (o := 2) (r := some y2) (hg 2 _ rfl) hC1 [c2] rfl
  obtain ⟨s, e0, _, w0⟩ := DataW.trod_string Try.underlying9 g0
  obtain ⟨b, e1, _⟩ := DataW.trod_bool Try.underlying4 g1
  obtain ⟨k, e2, _, w2⟩ := DataW.trod_int Try.underlying3 g2
  simp at e0 e1 e2
  subst e0 e1 e2
  have b0 := Go.bounds_i64 w2
  exact ⟨⟨s, b, k⟩, rfl, ⟨w0, b0.1, by show k ≤ _; omega⟩⟩
theorem open_dscript {a : Option Addr} {len cap : Nat} {d : DataW H} {p : List MemPlace} (h : DataW.Trod enc Try.prog W B (fun _ => true) hd 22 (.slice a len cap) d p) :
    ∃ l : List DAc, Lst encDA 3 W a len l ∧ len ≤ maxLen ∧ ∀ m ∈ l, m.ok := by
  obtain ⟨fuel, hf⟩ := h
  rcases Deep.open_slice Try.underlying22 hf with ⟨hcs, _⟩ | ⟨x, l, c, m, n, D, Pl, hcs, _, hl, hm, hmm, _, hx⟩
  · simp [Value.cells] at hcs
    obtain ⟨rfl, rfl, rfl⟩ := hcs
    exact ⟨[], ⟨rfl, fun h => by omega⟩, by decide, fun m hm => by cases hm⟩
  · simp [Value.cells] at hcs
    obtain ⟨rfl, rfl, rfl⟩ := hcs
    have hm' : m = cap := by simpa using hmm
    have hC : Try.prog.cellsOf 30 = 3 := by kernel_rfl
    have each : ∀ i, i < len → ∃ q : DAc, (∀ c v, (encDA q)[c]? = some v → W.cell? (x.add (i * 3 + c)) = some v) ∧ q.ok := by
      intro i hi
      obtain ⟨cs, hc, ht⟩ := hx i (by omega)
      rw [hC] at hc
      obtain ⟨_, hlen, hcell⟩ := World.cells?_some hc
      obtain ⟨q, rfl, hq⟩ := open_dac ht
      refine ⟨q, fun c u hu => ?_, hq⟩
      have hc3 : c < 3 := (List.getElem?_eq_some_iff.1 hu).1
      have := hcell c hc3
      rw [← Go.Deep.add_add, this]
      exact hu
    obtain ⟨z, hz⟩ := Deep.choose_lt each
    refine ⟨(List.range len).map z, ⟨by simp, fun h0 => ?_⟩, ?_, fun q hq => ?_⟩
    · obtain ⟨b, o, sp⟩ := x
      have hsp : sp = none := by simpa [Addr.add] using World.cell?_spot ((hz 0 h0).1 0 _ rfl)
      subst hsp
      refine ⟨b, o, rfl, fun i k hk c v hv => ?_⟩
      rw [List.getElem?_map] at hk
      have hi : i < len := by
        rcases Nat.lt_or_ge i len with h | h
        · exact h
        · rw [List.getElem?_eq_none (by simpa using h)] at hk; cases hk
      rw [List.getElem?_range hi] at hk
      have hk' : z i = k := by simpa using hk
      subst hk'
      have := (hz i hi).1 c v hv
      rw [dadd_lit] at this
      rw [Nat.add_assoc]; exact this
    · exact Nat.le_trans hl hm
    · obtain ⟨i, hi, rfl⟩ := List.mem_map.1 hq
      exact (hz i (List.mem_range.1 hi)).2
end

theorem dlst_at {w : World} {b o : Nat} {l : List DAc} (h : RowAt encDA 3 w b o l) (k : Nat) (a : DAc) (hk : l[k]? = some a) :
    w.cell? ⟨b, o + k * 3, none⟩ = some (.string a.data) ∧ w.cell? ⟨b, o + k * 3 + 1, none⟩ = some (.bool a.tear) ∧ w.cell? ⟨b, o + k * 3 + 2, none⟩ = some (.int .i64 a.keep) :=
  ⟨h k a hk 0 _ rfl, h k a hk 1 _ rfl, h k a hk 2 _ rfl⟩
def SomeBool (e : Ending) : Prop := ∃ b : Bool, e = .returned (.bool b)
set_option maxHeartbeats 2000000 in
set_option maxRecDepth 100000 in
theorem dfew (ao : Option Addr) (len cap : Nat) (l : List DAc) (w : World) (h : Lst encDA 3 w ao len l) (hl : len ≤ maxLen) (hok : ∀ m ∈ l, m.ok) :
    Calls Try.prog 8 #[.slice ao len cap] w fun e w' => SomeBool e ∧ w = w' := by
  have HS := Lib.hid h.src
  have hsz := h.size
  clear h
  unfold maxLen at hl
  go_enter Try.func8, Try.ntmps8
  go_wp2
  go_loop [3, 4] (fun n i => ∃ (k : Nat) (s : Int), k ≤ len ∧ i = .int .i64 k ∧ n = .int .i64 s ∧ 0 ≤ s ∧ s ≤ 100000) (fun _ i => len - (intOf i).toNat)
  case atStart => exact ⟨0, 0, Nat.zero_le _, rfl, rfl, by decide, by decide⟩
  case round =>
    obtain ⟨k, s, hk, rfl, rfl, hs0, hs1⟩ := hrel
    by_cases hlt : k < len
    · obtain ⟨b, o, rfl, R⟩ := HS.out (by omega)
      have hkl : k < l.length := by omega
      have c := (dlst_at R k l[k] (List.getElem?_eq_getElem hkl)).1
      generalize l[k].data = t at *
      clear R hkl
      obtain ⟨q, hmin, hq0, hq1⟩ : ∃ q : Int, min (t.size : Int) 100000 = q ∧ 0 ≤ q ∧ q ≤ 100000 := ⟨_, rfl, by omega, by omega⟩
      go_wp2
      all_goals first
        | (go_round
           case rel => exact ⟨k + 1, _, by omega, by go_num, rfl, by omega, by omega⟩
           case measure => simp [intOf]; omega)
        | (go_ret; exact ⟨⟨_, rfl⟩, rfl⟩)
    · go_wp2
      go_ret
      exact ⟨⟨_, rfl⟩, rfl⟩
/-- A law's walk behind its beginning. -/
theorem dnum_step {d : Dk} {k : Nat} (x : DAc) (h : numD d ≤ k) (hk : k < 9223372036854775807) : numD (stepD d x) ≤ k + 1 := by
  unfold stepD
  split
  · rw [(tear_read d x.data x.keep).2.2]; omega
  · by_cases hs : x.data.size ≤ 8192
    · rw [(write_read hs (by omega)).2.2]; omega
    · rw [write_long hs]; omega
end Go.Proofs.Ytimdemidnleiiaa
