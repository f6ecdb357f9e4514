/- What came in, opened: a script of calls. -/
import Derived.Test.YtfocjcdfpnbkjaaZOrdAwake
import Derived.Deep.SlicePairs
import Derived.Lib.SmallJoins
import Derived.ChangeSlices
import Derived.Test.YtfocjcdfpnbkjaaZKeyMaths
import Derived.Maps.AppendAt
set_option linter.unusedVariables false
set_option maxRecDepth 100000
set_option linter.unusedSimpArgs false
namespace Go.Proofs.Ytfocjcdfpnbkjaa
open Go.ChangeShapes Go.WideShapes Go.ChangeAt Go.RowKit Go.Joins Go.Deep

instance : Inhabited OA := ⟨⟨0, 0, zeroG, 0, 0⟩⟩
def encO (a : OA) : List Value := [.int .i64 a.kind, .int .i64 a.p, .int .i64 a.m.f, .int .u32 a.m.q, .int .u64 a.m.s, .int .i64 a.m.v, .slice a.m.a a.m.dl a.m.dc, .string a.m.text, .int .u32 (a.seq : Int), .int .u64 (a.st : Int)]
theorem encO_length (a : OA) : (encO a).length = 10 := rfl
/-- What is known of an act that came in. -/
structure OA.ok (w : World) (a : OA) : Prop where
  k0 : -9223372036854775808 ≤ a.kind
  k1 : a.kind ≤ 9223372036854775807
  p0 : -9223372036854775808 ≤ a.p
  p1 : a.p ≤ 9223372036854775807
  q : a.seq < 4294967296
  s : a.st < 18446744073709551616
  d : DpIn w a.m
  m : a.m.okS
theorem OA.ok.below {w w' : World} {a : OA} (h : a.ok w) (hb : Below w.heap.size w w') : a.ok w' := ⟨h.k0, h.k1, h.p0, h.p1, h.q, h.s, Lst.below h.d hb, h.m⟩
theorem olist10 {α : Type} {l : List α} (h : l.length = 10) : ∃ a0 a1 a2 a3 a4 a5 a6 a7 a8 a9, l = [a0, a1, a2, a3, a4, a5, a6, a7, a8, a9] := by
  match l, h with
  | [a0, a1, a2, a3, a4, a5, a6, a7, a8, a9], _ => exact ⟨a0, a1, a2, a3, a4, a5, a6, a7, a8, a9, rfl⟩
theorem olist6 {α : Type} {l : List α} (h : l.length = 6) : ∃ a0 a1 a2 a3 a4 a5, l = [a0, a1, a2, a3, a4, a5] := by
  match l, h with
  | [a0, a1, a2, a3, a4, a5], _ => exact ⟨a0, a1, a2, a3, a4, a5, rfl⟩
theorem olist5 {α : Type} {l : List α} (h : l.length = 5) : ∃ a0 a1 a2 a3 a4, l = [a0, a1, a2, a3, a4] := by
  match l, h with
  | [a0, a1, a2, a3, a4], _ => exact ⟨a0, a1, a2, a3, a4, rfl⟩
section
variable {H : Type} {enc : TypeId × Value → H} {W : World} {B : Nat} {hd : Bool}
theorem hfld14 {k o n : Nat} {ty : TypeId} {cs : List Value} {r : Option (DataW H × List MemPlace)} (g : DataW.trod enc Try.prog W B (fun _ => true) hd k ty (List.take (Try.prog.cellsOf ty) (List.drop o cs)) = r) (hc : Try.prog.cellsOf ty = n) (cs' : List Value) (he : List.take n (List.drop o cs) = cs') : DataW.trod enc Try.prog W B (fun _ => true) hd k ty cs' = r := by
  rw [hc, he] at g; exact g
theorem ints_lst14 {k : IntKind} {x : Addr} {len : Nat} {zs : List Int} (hlen : len ≤ zs.length) (hc : ∀ i, i < zs.length → W.cell? (x.add i) = some (.int k (zs.getD i 0))) : Lst (fun n : Int => [.int k n]) 1 W (some x) len (zs.take len) := by
  refine ⟨by simp; omega, fun h0 => ?_⟩
  obtain ⟨b, o, sp⟩ := x
  have hsp : sp = none := by simpa [Addr.add] using World.cell?_spot (hc 0 (by omega))
  subst hsp
  refine ⟨b, o, rfl, fun i n hn c v hv => ?_⟩
  have hi : i < len := by
    have := (List.getElem?_eq_some_iff.1 hn).1
    rw [List.length_take] at this
    omega
  rw [List.getElem?_take, if_pos hi] at hn
  have h1 := hc i (by omega)
  rw [add_lit10, List.getD_eq_getElem?_getD, hn] at h1
  match c, hv with
  | 0, hv =>
    have : v = .int k n := by simpa using hv.symm
    rw [this, Nat.mul_one, Nat.add_zero]; exact h1
  | c + 1, hv => simp at hv
theorem open_deps14 {n : Nat} {v : Value} {y : DataW H × List MemPlace} (h : DataW.trod enc Try.prog W B (fun _ => true) hd n 45 [v] = some y) : ∃ (a : Option Addr) (dl dc : Nat) (deps : List Int), v = .slice a dl dc ∧ Lst (fun n : Int => [.int .u32 n]) 1 W a dl deps := by
  rcases open_ints Try.underlying45 Try.underlying30 (by kernel_rfl) h with ⟨hcs, _⟩ | ⟨x, l, c, zs, hcs, _, hl, hm, hz, _, hcell, hwz⟩
  · simp only [List.cons.injEq, and_true] at hcs
    exact ⟨none, 0, 0, [], hcs, rfl, fun h => by omega⟩
  · simp only [List.cons.injEq, and_true] at hcs
    have hz' : zs.length = c := by simpa using hz
    exact ⟨some x, l, c, zs.take l, hcs, ints_lst14 (by omega) hcell⟩
theorem open_msg14 {n : Nat} {cs : List Value} {y : DataW H × List MemPlace} (h : DataW.trod enc Try.prog W B (fun _ => true) hd n 47 cs = some y) : ∃ m : Mg, cs = encG m ∧ DpIn W m ∧ m.okS := by
  obtain ⟨xs, k, _, rfl, hlen, hxl, hg⟩ := DataW.trod_struct Try.underlying47 h
  have hC : Try.prog.cellsOf 47 = 6 := by kernel_rfl
  have hC1 : Try.prog.cellsOf 3 = 1 := by kernel_rfl
  have hC2 : Try.prog.cellsOf 30 = 1 := by kernel_rfl
  have hC3 : Try.prog.cellsOf 22 = 1 := by kernel_rfl
  have hC4 : Try.prog.cellsOf 45 = 1 := by kernel_rfl
  have hC5 : Try.prog.cellsOf 9 = 1 := by kernel_rfl
  rw [hC] at hlen
  obtain ⟨c0, c1, c2, c3, c4, c5, rfl⟩ := olist6 hlen
  obtain ⟨y0, y1, y2, y3, y4, y5, rfl⟩ := olist6 hxl
  have g0 := hfld14 (ty := 3) (o := 0) (r := some y0) (hg 0 _ rfl) hC1 [c0] rfl
  have g1 := hfld14 (ty := 30) (o := 1) (r := some y1) (hg 1 _ rfl) hC2 [c1] rfl
  have g2 := hfld14 (ty := 22) (o := 2) (r := some y2) (hg 2 _ rfl) hC3 [c2] rfl
  have g3 := hfld14 (ty := 3) (o := 3) (r := some y3) (hg 3 _ rfl) hC1 [c3] rfl
  have g4 := hfld14 (ty := 45) (o := 4) (r := some y4) (hg 4 _ rfl) hC4 [c4] rfl
  have g5 := hfld14 (ty := 9) (o := 5) (r := some y5) (hg 5 _ rfl) hC5 [c5] rfl
  obtain ⟨f, e0, _, wf⟩ := DataW.trod_int Try.underlying3 g0
  obtain ⟨q, e1, _, wq⟩ := DataW.trod_int Try.underlying30 g1
  have hwq := Go.bounds_u32 wq
  obtain ⟨s, e2, _, ws⟩ := DataW.trod_int Try.underlying22 g2
  obtain ⟨v, e3, _⟩ := DataW.trod_int Try.underlying3 g3
  obtain ⟨da, dl, dc, deps, e4, hdeps⟩ := open_deps14 g4
  obtain ⟨text, e5, _⟩ := DataW.trod_string Try.underlying9 g5
  have hwf := Go.bounds_i64 wf
  have hws := Go.bounds_u64 ws
  simp at e0 e1 e2 e3 e5
  subst e0 e1 e2 e3 e4 e5
  exact ⟨⟨f, q, s, v, da, dl, dc, deps, text⟩, rfl, hdeps, ⟨by show -9223372036854775808 ≤ f; omega, by show f ≤ 9223372036854775807; omega, by show 0 ≤ q; omega, by show q < 4294967296; omega, by show 0 ≤ s; omega, by show s < 18446744073709551616; omega⟩⟩
theorem open_oact {n : Nat} {cs : List Value} {y : DataW H × List MemPlace} (h : DataW.trod enc Try.prog W B (fun _ => true) hd n 49 cs = some y) : ∃ a : OA, cs = encO a ∧ a.ok W := by
  obtain ⟨xs, k, _, rfl, hlen, hxl, hg⟩ := DataW.trod_struct Try.underlying49 h
  have hC : Try.prog.cellsOf 49 = 10 := by kernel_rfl
  have hC1 : Try.prog.cellsOf 3 = 1 := by kernel_rfl
  have hC2 : Try.prog.cellsOf 30 = 1 := by kernel_rfl
  have hC4 : Try.prog.cellsOf 22 = 1 := by kernel_rfl
  have hC3 : Try.prog.cellsOf 47 = 6 := by kernel_rfl
  rw [hC] at hlen
  obtain ⟨c0, c1, c2, c3, c4, c5, c6, c7, c8, c9, rfl⟩ := olist10 hlen
  obtain ⟨y0, y1, y2, y3, y4, rfl⟩ := olist5 hxl
  have g0 := hfld14 (ty := 3) (o := 0) (r := some y0) (hg 0 _ rfl) hC1 [c0] rfl
  have g1 := hfld14 (ty := 3) (o := 1) (r := some y1) (hg 1 _ rfl) hC1 [c1] rfl
  have g2 := hfld14 (ty := 47) (o := 2) (r := some y2) (hg 2 _ rfl) hC3 [c2, c3, c4, c5, c6, c7] rfl
  have g3 := hfld14 (ty := 30) (o := 8) (r := some y3) (hg 3 _ rfl) hC2 [c8] rfl
  have g4 := hfld14 (ty := 22) (o := 9) (r := some y4) (hg 4 _ rfl) hC4 [c9] rfl
  obtain ⟨kk, e0, _, wk⟩ := DataW.trod_int Try.underlying3 g0
  obtain ⟨p, e1, _, wp⟩ := DataW.trod_int Try.underlying3 g1
  obtain ⟨m, e2, hdm, hm⟩ := open_msg14 g2
  obtain ⟨u, e3, _, wu⟩ := DataW.trod_int Try.underlying30 g3
  obtain ⟨z, e4, _, wz⟩ := DataW.trod_int Try.underlying22 g4
  simp at e0 e1 e3 e4
  have b0 := Go.bounds_i64 wk
  have b1 := Go.bounds_i64 wp
  have b2 := Go.bounds_u32 wu
  have b3 := Go.bounds_u64 wz
  obtain ⟨u, rfl⟩ := Int.eq_ofNat_of_zero_le (show 0 ≤ u by omega)
  obtain ⟨z, rfl⟩ := Int.eq_ofNat_of_zero_le (show 0 ≤ z by omega)
  refine ⟨⟨kk, p, m, u, z⟩, ?_, ⟨b0.1, by show kk ≤ _; omega, b1.1, by show p ≤ _; omega, by show u < _; omega, by show z < _; omega, hdm, hm⟩⟩
  unfold encG at e2
  unfold encO
  simp only [List.cons.injEq, and_true] at e2
  obtain ⟨q0, q1, q2, q3, q4, q5⟩ := e2
  rw [e0, e1, q0, q1, q2, q3, q4, q5, e3, e4]
theorem open_oscr {a : Option Addr} {len cap : Nat} {d : DataW H} {p : List MemPlace} (h : DataW.Trod enc Try.prog W B (fun _ => true) hd 23 (.slice a len cap) d p) :
    ∃ l : List OA, Lst encO 10 W a len l ∧ ∀ m ∈ l, m.ok W := by
  obtain ⟨fuel, hf⟩ := h
  rcases Deep.open_slice Try.underlying23 hf with ⟨hcs, _⟩ | ⟨x, l, c, m, n, D, Pl, hcs, _, hl, hm, hmm, _, hx⟩
  · simp [Value.cells] at hcs
    obtain ⟨rfl, rfl, rfl⟩ := hcs
    exact ⟨[], ⟨rfl, fun h => by omega⟩, fun m hm => by cases hm⟩
  · simp [Value.cells] at hcs
    obtain ⟨rfl, rfl, rfl⟩ := hcs
    have hm' : m = cap := by simpa using hmm
    have hC : Try.prog.cellsOf 49 = 10 := by kernel_rfl
    have each : ∀ i, i < len → ∃ q : OA, (∀ c v, (encO q)[c]? = some v → W.cell? (x.add (i * 10 + c)) = some v) ∧ q.ok W := by
      intro i hi
      obtain ⟨cs, hc, ht⟩ := hx i (by omega)
      rw [hC] at hc
      obtain ⟨_, hlen, hcell⟩ := World.cells?_some hc
      obtain ⟨q, rfl, hq⟩ := open_oact ht
      refine ⟨q, fun c u hu => ?_, hq⟩
      have hc10 : c < 10 := (List.getElem?_eq_some_iff.1 hu).1
      have := hcell c hc10
      rw [← Go.Deep.add_add, this]
      exact hu
    obtain ⟨z, hz⟩ := Deep.choose_lt each
    refine ⟨(List.range len).map z, ⟨by simp, fun h0 => ?_⟩, fun q hq => ?_⟩
    · obtain ⟨b, o, sp⟩ := x
      have hsp : sp = none := by simpa [Addr.add] using World.cell?_spot ((hz 0 h0).1 0 _ rfl)
      subst hsp
      refine ⟨b, o, rfl, fun i k hk c v hv => ?_⟩
      rw [List.getElem?_map] at hk
      have hi : i < len := by
        rcases Nat.lt_or_ge i len with h | h
        · exact h
        · rw [List.getElem?_eq_none (by simpa using h)] at hk; cases hk
      rw [List.getElem?_range hi] at hk
      have hk' : z i = k := by simpa using hk
      subst hk'
      have := (hz i hi).1 c v hv
      rw [add_lit10] at this
      rw [Nat.add_assoc]; exact this
    · obtain ⟨i, hi, rfl⟩ := List.mem_map.1 hq
      exact (hz i (List.mem_range.1 hi)).2
end
end Go.Proofs.Ytfocjcdfpnbkjaa

/- One act done to an order. (Written by gen_oact.py.) -/
set_option linter.unusedVariables false
set_option maxRecDepth 100000
set_option linter.unusedSimpArgs false
namespace Go.Proofs.Ytfocjcdfpnbkjaa
open Go.RowKit Go.Sort Go.Shelf

/-- What an act leaves, and what it hands out. -/
def stepO (O : Od) (a : OA) : Od × List Mg :=
  if a.kind = 0 then (takeO O a.m, []) else if a.kind = 1 then (promO O a.p a.st a.seq, []) else if a.kind = 2 then (reachO O a.p a.st, []) else if a.kind = 3 ∨ a.kind = 4 then ((drainO O).2, (drainO O).1) else if a.kind = 5 then (trimO O a.p a.seq, []) else (O, [])
theorem stepO_0 {O : Od} {a : OA} (h : a.kind = 0) : stepO O a = (takeO O a.m, []) := by unfold stepO; rw [if_pos h]
theorem stepO_1 {O : Od} {a : OA} (h : a.kind = 1) : stepO O a = (promO O a.p a.st a.seq, []) := by unfold stepO; rw [if_neg (by omega), if_pos h]
theorem stepO_2 {O : Od} {a : OA} (h : a.kind = 2) : stepO O a = (reachO O a.p a.st, []) := by unfold stepO; rw [if_neg (by omega), if_neg (by omega), if_pos h]
theorem stepO_3 {O : Od} {a : OA} (h : a.kind = 3 ∨ a.kind = 4) : stepO O a = ((drainO O).2, (drainO O).1) := by unfold stepO; rw [if_neg (by omega), if_neg (by omega), if_neg (by omega), if_pos h]
theorem stepO_5 {O : Od} {a : OA} (h : a.kind = 5) : stepO O a = (trimO O a.p a.seq, []) := by unfold stepO; rw [if_neg (by omega), if_neg (by omega), if_neg (by omega), if_neg (by omega), if_pos h]
theorem stepO_else {O : Od} {a : OA} (h : a.kind < 0 ∨ 5 < a.kind) : stepO O a = (O, []) := by unfold stepO; rw [if_neg (by omega), if_neg (by omega), if_neg (by omega), if_neg (by omega), if_neg (by omega)]
theorem leftK_ext {O P : Od} (hc : ∀ p, P.S.cnt p = O.S.cnt p) (hd : P.dn = O.dn) : ∀ k, leftK P k = leftK O k
  | 0 => rfl
  | k + 1 => by unfold leftK; rw [leftK_ext hc hd k, hc, hd]
theorem left_trim (O : Od) (p : Int) (u : Nat) : leftO (trimO O p u) = leftO O := by
  unfold trimO
  split
  · exact leftK_ext (O := O) (P := { O with S := dropS O.S p (min u (O.dn p.toNat)) }) (fun q => drop_cnt O.S p _ q) rfl 64
  · rfl
theorem leftK_took (O : Od) (m : Mg) (p : Nat) (hS : ∀ q, (putS O.S m).cnt q = if q = p then O.S.cnt q + 1 else O.S.cnt q) : ∀ k, leftK (tookO O m) k ≤ leftK O k + (if p < k then 1 else 0)
  | 0 => Nat.zero_le _
  | k + 1 => by
    have ih := leftK_took O m p hS k
    unfold leftK
    show _ + ((putS O.S m).cnt k - O.dn k) ≤ _
    rw [hS]
    split <;> split <;> (try split at ih) <;> omega
theorem left_take (O : Od) (m : Mg) : leftO (takeO O m) ≤ leftO O + 1 := by
  cases hM : mem O.ms m.f with
  | false => rw [(takeO_no hM).1]; omega
  | true =>
    by_cases hc : putCode O.S m = 0
    · rw [(takeO_ok hM hc).1]
      obtain ⟨k, hf, hk, hq, hS⟩ := put_code hc
      have := leftK_took O m k (fun q => by
        rw [hS]
        unfold Hs.cnt
        show O.S.lo q + (updF O.S.R k (O.S.R k ++ [strip m]) q).length = _
        by_cases e : q = k
        · subst e; rw [updF_same, if_pos rfl, List.length_append]; simp; omega
        · rw [updF_other _ _ _ _ e, if_neg e]) 64
      rw [if_pos hk] at this
      exact this
    · rw [(takeO_bad hM hc).1]; omega
theorem step_left {O : Od} (h : O.ok) (a : OA) : leftO (stepO O a).1 + (stepO O a).2.length ≤ leftO O + 1 := by
  unfold stepO
  split
  · have := left_take O a.m; simpa using this
  split
  · show leftO O + 0 ≤ _; omega
  split
  · show leftO O + 0 ≤ _; omega
  split
  · have := (drainO_is h).left h; show leftO (drainO O).2 + (drainO O).1.length ≤ _; omega
  split
  · show leftO (trimO O a.p a.seq) + 0 ≤ _; rw [left_trim]; omega
  · show leftO O + 0 ≤ _; omega
theorem prom_wait (H : Hz) (p : Int) (st sn : Nat) : (promZ H p st sn).wait.length ≤ H.wait.length + 1 := by
  have := step_wait H ⟨1, p, sn, st⟩
  rwa [(stepZ_1 rfl).1] at this
theorem reach_wait (H : Hz) (p : Int) (st : Nat) : (reachZ H p st).wait.length ≤ H.wait.length + 1 := by
  have := step_wait H ⟨2, p, 0, st⟩
  rwa [(stepZ_2 rfl).1] at this
/-- A row that is apart from the blocks of E. -/
structure RowO (E : Nat → Prop) (B : Nat) (w : World) (v : Value) (n : Nat) (X : List Mg) : Prop where
  own : w.ownsRow B 47 6 v n (flat encG X)
  len : X.length = n
  ne : ∀ k, some k = v.ownBlock → ¬ E k
  deps : ∀ x ∈ X, DpT w (fun k => B ≤ k ∧ ¬ E k) x
/-- What an act does. -/
structure ActO (wr : World) (E : Nat → Prop) (g N : Nat) (O : Od) (l : List Mg) (e : Ending) (w' : World) : Prop where
  ex : ∃ (a : Option Addr) (n c : Nat) (X : List Mg) (E' : Nat → Prop), e = .returned (.slice a n c) ∧ RowO E' wr.heap.size w' (.slice a n c) n X ∧ X.map strip = l ∧ ORep w' E' g N O ∧ Chg E wr w' ∧ ∀ k, E' k → newF E wr w' k
theorem ActO.nil {wr w' : World} {E : Nat → Prop} {g N : Nat} {O : Od} (hr : ORep w' (newF E wr w') g N O) (hc : Chg E wr w') : ActO wr E g N O [] (.returned (.slice none 0 0)) w' :=
  ⟨none, 0, 0, [], _, rfl, ⟨World.ownsRow_nil _ _ _ _, rfl, (fun k hk => by simp [Value.ownBlock] at hk), (fun x hx => by cases hx)⟩, rfl, hr, hc, fun k hk => hk⟩
theorem ActO.after {w wr w' : World} {E : Nat → Prop} {g N : Nat} {O : Od} {l : List Mg} {e : Ending} (hb : Below w.heap.size w wr) (h : ActO wr E g N O l e w') : ActO w E g N O l e w' := by
  obtain ⟨a, n, c, X, E', h1, h2, h3, h4, h5, h6⟩ := h.ex
  refine ⟨a, n, c, X, E', h1, ⟨own_base h2.own hb.size, h2.len, h2.ne, fun x hx => (h2.deps x hx).more fun k _ hk => ⟨Nat.le_trans hb.size hk.1, hk.2⟩⟩, h3, h4, Chg.after hb h5, fun k hk => newF_then hb.size h5.size k (h6 k hk)⟩
section
variable {w : World} {E : Nat → Prop} {g N : Nat} {O : Od}
set_option maxHeartbeats 4000000 in
theorem oact_0 (h : ORep w E g N O) (hN : N ≤ 999) (a : OA) (ha : a.ok w) (hdl : a.m.dl ≤ 1048576) (hk : a.kind = 0) :
    Calls Try.prog 32 #[.pointer (some ⟨g, 0, none⟩), .agg (encO a).toArray] w (ActO w E g (N + 1) (stepO O a).1 (stepO O a).2) := by
  rw [stepO_0 hk]
  obtain ⟨kind, p, ⟨f, q, s, v, da, dl, dc, deps, text⟩, seq, st⟩ := a
  simp only at *
  subst hk
  have LB := ((Grw.refl w).alloc (.cells #[.int .i64 0, .int .i64 p, .int .i64 f, .int .u32 q, .int .u64 s, .int .i64 v, .slice da dl dc, .string text, .int .u32 (seq : Int), .int .u64 (st : Int)] 49)).below
  have h1 := h.below LB
  have HB := Lib.hid LB
  have P := otake h1 hN ⟨f, q, s, v, da, dl, dc, deps, text⟩ ha.m (Lst.below ha.d LB) hdl
  unfold valG at P
  simp only [encG] at P
  clear h h1 LB ha hdl
  unfold encO
  go_enter Try.func32, Try.ntmps32
  go_wp2_with fail
  refine P.mono ?_
  rintro e w' ⟨rfl, k2, k3⟩
  have HK := Lib.hid (And.intro k2 k3)
  clear P k2 k3
  go_wp2
  go_ret
  exact ActO.after HB.out (.nil HK.out.1 HK.out.2)
set_option maxHeartbeats 4000000 in
theorem oact_1 (h : ORep w E g N O) (hN : N ≤ 999) (a : OA) (ha : a.ok w) (hdl : a.m.dl ≤ 1048576) (hk : a.kind = 1) :
    Calls Try.prog 32 #[.pointer (some ⟨g, 0, none⟩), .agg (encO a).toArray] w (ActO w E g (N + 1) (stepO O a).1 (stepO O a).2) := by
  rw [stepO_1 hk]
  obtain ⟨kind, p, ⟨f, q, s, v, da, dl, dc, deps, text⟩, seq, st⟩ := a
  simp only at *
  subst hk
  have LB := ((Grw.refl w).alloc (.cells #[.int .i64 1, .int .i64 p, .int .i64 f, .int .u32 q, .int .u64 s, .int .i64 v, .slice da dl dc, .string text, .int .u32 (seq : Int), .int .u64 (st : Int)] 49)).below
  have h1 := h.below LB
  have HB := Lib.hid LB
  obtain ⟨gh, gz, F, zs, hA⟩ := h1.ex
  have HA := Lib.hid hA
  have c1 := hA.c1
  have p0 := ha.p0
  have p1 := ha.p1
  have q0 := ha.q
  have s0 := ha.s
  simp only at p0 p1 q0 s0
  have V := Own.new w 49 #[.int .i64 1, .int .i64 p, .int .i64 f, .int .u32 q, .int .u64 s, .int .i64 v, .slice da dl dc, .string text, .int .u32 (seq : Int), .int .u64 (st : Int)]
  have d1 := V.at_ 1 _ rfl
  have d8 := V.at_ 8 _ rfl
  have d9 := V.at_ 9 _ rfl
  clear h h1 LB ha hdl hA V
  unfold encO
  go_enter Try.func32, Try.ntmps32
  go_upto_region 5 with fail
  obtain ⟨vb, hvb⟩ : ∃ vb, vb = w.heap.size := ⟨_, rfl⟩
  rw [← hvb] at d1 d8 d9
  try rw [← hvb]
  clear hvb
  generalize w.alloc (.cells #[.int .i64 1, .int .i64 p, .int .i64 f, .int .u32 q, .int .u64 s, .int .i64 v, .slice da dl dc, .string text, .int .u32 (seq : Int), .int .u64 (st : Int)] 49) = W at *
  go_still_tail 10, (by kernel_rfl)
  change wpList _ _ _ _ _ (W.drewN 1)
  have HA1 := HA.out.below ((Grw.refl W).drewN 1).below
  have P := zprom HA1.hz (Nat.le_trans HA1.wt (by omega)) p p0 p1 st seq s0 q0
  have HA1 := Lib.hid HA1
  have HB1 := Lib.hid (HB.out.trans (((Grw.refl W).drewN 1).below.mono HB.out.size))
  clear c1 d1 d8 d9
  generalize W.drewN 1 = W1 at *
  go_wp2_with fail
  refine P.mono ?_
  rintro e w' ⟨rfl, k2⟩
  have HK := Lib.hid (HA1.out.seen k2 (Nat.le_succ N) (Nat.le_trans (prom_wait _ _ _ _) (Nat.succ_le_succ HA1.out.wt)))
  clear P k2
  go_wp2
  go_ret
  exact ActO.after HB1.out (.nil HK.out.1 HK.out.2)
set_option maxHeartbeats 4000000 in
theorem oact_2 (h : ORep w E g N O) (hN : N ≤ 999) (a : OA) (ha : a.ok w) (hdl : a.m.dl ≤ 1048576) (hk : a.kind = 2) :
    Calls Try.prog 32 #[.pointer (some ⟨g, 0, none⟩), .agg (encO a).toArray] w (ActO w E g (N + 1) (stepO O a).1 (stepO O a).2) := by
  rw [stepO_2 hk]
  obtain ⟨kind, p, ⟨f, q, s, v, da, dl, dc, deps, text⟩, seq, st⟩ := a
  simp only at *
  subst hk
  have LB := ((Grw.refl w).alloc (.cells #[.int .i64 2, .int .i64 p, .int .i64 f, .int .u32 q, .int .u64 s, .int .i64 v, .slice da dl dc, .string text, .int .u32 (seq : Int), .int .u64 (st : Int)] 49)).below
  have h1 := h.below LB
  have HB := Lib.hid LB
  obtain ⟨gh, gz, F, zs, hA⟩ := h1.ex
  have HA := Lib.hid hA
  have c1 := hA.c1
  have p0 := ha.p0
  have p1 := ha.p1
  have s0 := ha.s
  simp only at p0 p1 s0
  have V := Own.new w 49 #[.int .i64 2, .int .i64 p, .int .i64 f, .int .u32 q, .int .u64 s, .int .i64 v, .slice da dl dc, .string text, .int .u32 (seq : Int), .int .u64 (st : Int)]
  have d1 := V.at_ 1 _ rfl
  have d9 := V.at_ 9 _ rfl
  clear h h1 LB ha hdl hA V
  unfold encO
  go_enter Try.func32, Try.ntmps32
  go_upto_region 7 with fail
  obtain ⟨vb, hvb⟩ : ∃ vb, vb = w.heap.size := ⟨_, rfl⟩
  rw [← hvb] at d1 d9
  try rw [← hvb]
  clear hvb
  generalize w.alloc (.cells #[.int .i64 2, .int .i64 p, .int .i64 f, .int .u32 q, .int .u64 s, .int .i64 v, .slice da dl dc, .string text, .int .u32 (seq : Int), .int .u64 (st : Int)] 49) = W at *
  go_still_tail 8, (by kernel_rfl)
  change wpList _ _ _ _ _ (W.drewN 1)
  have HA1 := HA.out.below ((Grw.refl W).drewN 1).below
  have P := zreached HA1.hz p p0 p1 st s0
  have HA1 := Lib.hid HA1
  have HB1 := Lib.hid (HB.out.trans (((Grw.refl W).drewN 1).below.mono HB.out.size))
  clear c1 d1 d9
  generalize W.drewN 1 = W1 at *
  go_wp2_with fail
  refine P.mono ?_
  rintro e w' ⟨rfl, k2, k3⟩
  have HK := Lib.hid (HA1.out.seen (Gone13.mk' k2 k3) (Nat.le_succ N) (Nat.le_trans (reach_wait _ _ _) (Nat.succ_le_succ HA1.out.wt)))
  clear P k2 k3
  go_wp2
  go_ret
  exact ActO.after HB1.out (.nil HK.out.1 HK.out.2)
set_option maxHeartbeats 4000000 in
theorem oact_3 (h : ORep w E g N O) (hN : N ≤ 999) (a : OA) (ha : a.ok w) (hdl : a.m.dl ≤ 1048576) (hk : a.kind = 3) :
    Calls Try.prog 32 #[.pointer (some ⟨g, 0, none⟩), .agg (encO a).toArray] w (ActO w E g (N + 1) (stepO O a).1 (stepO O a).2) := by
  rw [stepO_3 (.inl hk)]
  obtain ⟨kind, p, ⟨f, q, s, v, da, dl, dc, deps, text⟩, seq, st⟩ := a
  simp only at *
  subst hk
  have LB := ((Grw.refl w).alloc (.cells #[.int .i64 3, .int .i64 p, .int .i64 f, .int .u32 q, .int .u64 s, .int .i64 v, .slice da dl dc, .string text, .int .u32 (seq : Int), .int .u64 (st : Int)] 49)).below
  have h1 := h.below LB
  have HB := Lib.hid LB
  have HL := Lib.hid h1.lim
  have P := odrain h1 (by omega)
  have HE := Lib.hid (And.intro h1.ok h1.eg)
  clear h h1 LB ha hdl
  unfold encO
  go_enter Try.func32, Try.ntmps32
  go_wp2_with fail
  refine P.mono ?_
  rintro e w' ⟨a, n, c, X, P', rfl, k1, k2, k3, k4, k5, k6, k7⟩
  have HK := Lib.hid (show ActO _ E g (N + 1) (drainO O).2 (drainO O).1 (.returned (.slice a n c)) w' from by
    have e := k4.eq HE.out.1
    rw [e]
    refine ⟨a, n, c, X, E, rfl, ⟨k1, k2, fun k hk he => ?_, fun x hx => (k3 x hx).more fun k _ hk => ⟨hk, fun he => ?_⟩⟩, rfl, k5.le (Nat.le_succ _), k6.mono (fun k _ hk => hk ▸ HE.out.2), fun k hk => .inl hk⟩
    · have := (own_typ k1 k hk).1
      have := HL.out k he
      omega
    · have := HL.out k he
      omega)
  clear P k1 k2 k3 k4 k5 k6 k7
  go_wp2
  go_ret
  exact ActO.after HB.out HK.out
set_option maxHeartbeats 4000000 in
theorem oact_4 (h : ORep w E g N O) (hN : N ≤ 999) (a : OA) (ha : a.ok w) (hdl : a.m.dl ≤ 1048576) (hk : a.kind = 4) :
    Calls Try.prog 32 #[.pointer (some ⟨g, 0, none⟩), .agg (encO a).toArray] w (ActO w E g (N + 1) (stepO O a).1 (stepO O a).2) := by
  rw [stepO_3 (.inr hk)]
  obtain ⟨kind, p, ⟨f, q, s, v, da, dl, dc, deps, text⟩, seq, st⟩ := a
  simp only at *
  subst hk
  have LB := ((Grw.refl w).alloc (.cells #[.int .i64 4, .int .i64 p, .int .i64 f, .int .u32 q, .int .u64 s, .int .i64 v, .slice da dl dc, .string text, .int .u32 (seq : Int), .int .u64 (st : Int)] 49)).below
  have h1 := h.below LB
  have HB := Lib.hid LB
  have HL := Lib.hid h1.lim
  have P := odrain h1 (by omega)
  have HE := Lib.hid (And.intro h1.ok h1.eg)
  clear h h1 LB ha hdl
  unfold encO
  go_enter Try.func32, Try.ntmps32
  go_wp2_with fail
  refine P.mono ?_
  rintro e w' ⟨a, n, c, X, P', rfl, k1, k2, k3, k4, k5, k6, k7⟩
  have HK := Lib.hid (show ActO _ E g (N + 1) (drainO O).2 (drainO O).1 (.returned (.slice a n c)) w' from by
    have e := k4.eq HE.out.1
    rw [e]
    refine ⟨a, n, c, X, E, rfl, ⟨k1, k2, fun k hk he => ?_, fun x hx => (k3 x hx).more fun k _ hk => ⟨hk, fun he => ?_⟩⟩, rfl, k5.le (Nat.le_succ _), k6.mono (fun k _ hk => hk ▸ HE.out.2), fun k hk => .inl hk⟩
    · have := (own_typ k1 k hk).1
      have := HL.out k he
      omega
    · have := HL.out k he
      omega)
  clear P k1 k2 k3 k4 k5 k6 k7
  go_wp2
  go_ret
  exact ActO.after HB.out HK.out
set_option maxHeartbeats 4000000 in
theorem oact_5 (h : ORep w E g N O) (hN : N ≤ 999) (a : OA) (ha : a.ok w) (hdl : a.m.dl ≤ 1048576) (hk : a.kind = 5) :
    Calls Try.prog 32 #[.pointer (some ⟨g, 0, none⟩), .agg (encO a).toArray] w (ActO w E g (N + 1) (stepO O a).1 (stepO O a).2) := by
  rw [stepO_5 hk]
  obtain ⟨kind, p, ⟨f, q, s, v, da, dl, dc, deps, text⟩, seq, st⟩ := a
  simp only at *
  subst hk
  have LB := ((Grw.refl w).alloc (.cells #[.int .i64 5, .int .i64 p, .int .i64 f, .int .u32 q, .int .u64 s, .int .i64 v, .slice da dl dc, .string text, .int .u32 (seq : Int), .int .u64 (st : Int)] 49)).below
  have h1 := h.below LB
  have HB := Lib.hid LB
  have P := otrim h1 (by omega) p ha.p0 ha.p1 seq ha.q
  clear h h1 LB ha hdl
  unfold encO
  go_enter Try.func32, Try.ntmps32
  go_wp2_with fail
  refine P.mono ?_
  rintro e w' ⟨rfl, k2, k3⟩
  have HK := Lib.hid (And.intro (k2.le (Nat.le_succ _)) k3)
  clear P k2 k3
  go_wp2
  go_ret
  exact ActO.after HB.out (.nil HK.out.1 HK.out.2)
set_option maxHeartbeats 4000000 in
theorem oact_else (h : ORep w E g N O) (hN : N ≤ 999) (a : OA) (ha : a.ok w) (hdl : a.m.dl ≤ 1048576) (hk : a.kind < 0 ∨ 5 < a.kind) :
    Calls Try.prog 32 #[.pointer (some ⟨g, 0, none⟩), .agg (encO a).toArray] w (ActO w E g (N + 1) (stepO O a).1 (stepO O a).2) := by
  rw [stepO_else hk]
  obtain ⟨kind, p, ⟨f, q, s, v, da, dl, dc, deps, text⟩, seq, st⟩ := a
  simp only at *
  have t0 : (kind == 0) = false := beq_eq_false_iff_ne.2 (by omega)
  have t1 : (kind == 1) = false := beq_eq_false_iff_ne.2 (by omega)
  have t2 : (kind == 2) = false := beq_eq_false_iff_ne.2 (by omega)
  have t3 : (kind == 3) = false := beq_eq_false_iff_ne.2 (by omega)
  have t4 : (kind == 4) = false := beq_eq_false_iff_ne.2 (by omega)
  have t5 : (kind == 5) = false := beq_eq_false_iff_ne.2 (by omega)
  clear hk
  have LB := ((Grw.refl w).alloc (.cells #[.int .i64 kind, .int .i64 p, .int .i64 f, .int .u32 q, .int .u64 s, .int .i64 v, .slice da dl dc, .string text, .int .u32 (seq : Int), .int .u64 (st : Int)] 49)).below
  have h1 := h.below LB
  have HB := Lib.hid LB
  have HK := Lib.hid ((h1.le (Nat.le_succ N)).up (Nat.le_refl _))
  clear h h1 LB ha hdl
  unfold encO
  go_enter Try.func32, Try.ntmps32
  go_wp2
  go_ret
  exact ActO.after HB.out (.nil HK.out (Chg.refl _ _))
theorem oact (h : ORep w E g N O) (hN : N ≤ 999) (a : OA) (ha : a.ok w) (hdl : a.m.dl ≤ 1048576) :
    Calls Try.prog 32 #[.pointer (some ⟨g, 0, none⟩), .agg (encO a).toArray] w (ActO w E g (N + 1) (stepO O a).1 (stepO O a).2) := by
  by_cases h0 : a.kind = 0
  · exact oact_0 h hN a ha hdl h0
  by_cases h1 : a.kind = 1
  · exact oact_1 h hN a ha hdl h1
  by_cases h2 : a.kind = 2
  · exact oact_2 h hN a ha hdl h2
  by_cases h3 : a.kind = 3
  · exact oact_3 h hN a ha hdl h3
  by_cases h4 : a.kind = 4
  · exact oact_4 h hN a ha hdl h4
  by_cases h5 : a.kind = 5
  · exact oact_5 h hN a ha hdl h5
  · exact oact_else h hN a ha hdl (by omega)
end
end Go.Proofs.Ytfocjcdfpnbkjaa

/- What the laws' walks share: Few, two rows held against each other, a script done. -/
set_option linter.unusedVariables false
set_option maxRecDepth 100000
set_option linter.unusedSimpArgs false
namespace Go.Proofs.Ytfocjcdfpnbkjaa
open Go.RowKit Go.Sort Go.Shelf

/-- Two rows of the same messages. -/
theorem all_rows14 {w : World} {sa ta : Option Addr} {sn tn sc tc : Nat} {X Y : List Mg} (hx : Lst encG 6 w sa sn X) (hy : Lst encG 6 w ta tn Y) (dx : ∀ x ∈ X, DpIn w x ∧ x.dl ≤ 1048576) (dy : ∀ y ∈ Y, DpIn w y) (h : X.map strip = Y.map strip) (hn : sn ≤ 1048576) :
    Calls Try.prog 20 #[.slice sa sn sc, .slice ta tn tc] w fun e w' => e = .returned (.bool true) ∧ Grw w w' := by
  have hl : X.length = Y.length := by have := congrArg List.length h; simpa using this
  have hs := hx.size
  have ht := hy.size
  have e : tn = sn := by omega
  subst e
  refine allG_any sa ta tn sc tc X Y w hx hy (fun m hm => (dx m hm).1) dy (fun m hm => (dx m hm).2) (fun i x y h1 h2 => ?_) hn
  refine strip_same ?_
  have e1 : (X.map strip)[i]? = some (strip x) := by rw [List.getElem?_map, h1]; rfl
  have e2 : (Y.map strip)[i]? = some (strip y) := by rw [List.getElem?_map, h2]; rfl
  rw [h, e2] at e1
  injection e1 with e1
  exact e1.symm
/-- A script, done. -/
def runO (O : Od) : List OA → Od
  | [] => O
  | a :: l => runO (stepO O a).1 l
theorem runO_append (O : Od) : ∀ (l r : List OA), runO O (l ++ r) = runO (runO O l) r
  | [], _ => rfl
  | a :: l, r => runO_append (stepO O a).1 l r
theorem runO_take (O : Od) (l : List OA) (k : Nat) (a : OA) (h : l[k]? = some a) : runO O (l.take (k + 1)) = (stepO (runO O (l.take k)) a).1 := by
  rw [List.take_add_one, h, runO_append]; rfl
/-- All that a script hands out. -/
def outO (O : Od) : List OA → List Mg
  | [] => []
  | a :: l => (stepO O a).2 ++ outO (stepO O a).1 l
theorem outO_append (O : Od) : ∀ (l r : List OA), outO O (l ++ r) = outO O l ++ outO (runO O l) r
  | [], _ => rfl
  | a :: l, r => by
    show (stepO O a).2 ++ outO (stepO O a).1 (l ++ r) = ((stepO O a).2 ++ outO (stepO O a).1 l) ++ outO (runO (stepO O a).1 l) r
    rw [outO_append (stepO O a).1 l r, List.append_assoc]
/-- Element k of a script: its cells. -/
theorem Lst.atO {w : World} {ao : Option Addr} {len k : Nat} {l : List OA} (h : Lst encO 10 w ao len l) (hk : k < len) : ∃ b o x, ao = some ⟨b, o, none⟩ ∧ l[k]? = some x ∧ b < w.heap.size ∧
    (∀ c v, (encO x)[c]? = some v → w.cell? ⟨b, o + k * 10 + c, none⟩ = some v) := by
  obtain ⟨b, o, e, hr⟩ := h.src (by omega)
  have hkl : k < l.length := by rw [h.size]; exact hk
  exact ⟨b, o, l[k], e, List.getElem?_eq_getElem hkl, World.block_lt_of_cell? _ _ (hr k _ (List.getElem?_eq_getElem hkl) 0 _ rfl), hr k _ (List.getElem?_eq_getElem hkl)⟩
/-- What the law's Few answers. -/
def FewO (w : World) (len : Nat) (l : List OA) (e : Ending) (w' : World) : Prop :=
  (e = .returned (.bool false) ∨ e = .returned (.bool true) ∧ len ≤ 60 ∧ ∀ a ∈ l, a.m.dl ≤ 20000) ∧ Below w.heap.size w w'
set_option maxHeartbeats 4000000 in
set_option maxRecDepth 100000 in
theorem ofew (ao : Option Addr) (len cap : Nat) (l : List OA) (w : World) (hl : Lst encO 10 w ao len l) : Calls Try.prog 15 #[.slice ao len cap] w (FewO w len l) := by
  have HL := Lib.hid hl
  have A0 : Hid (AbSt w w ((l.take 0).map OA.m) slNil) := Lib.hid ⟨Below.refl _ _, SlotAt.nil w, fun x hx => by simp [slNil] at hx⟩
  clear hl
  go_enter Try.func15, Try.ntmps15
  go_wp2
  go_loopw [3, 4] (fun so si wr => ∃ (k : Nat) (s : Sl), k ≤ len ∧ k ≤ 60 ∧ si = .int .i64 k ∧ so = .slice s.a s.n s.c ∧ Hid (AbSt w wr ((l.take k).map OA.m) s)) (fun _ si _ => len - (intOf si).toNat)
  case atStart => exact ⟨0, slNil, Nat.zero_le _, by omega, rfl, rfl, A0⟩
  case round =>
    obtain ⟨k, s, hk, hk2, rfl, rfl, HS⟩ := hrel
    by_cases hlt : k < len
    · obtain ⟨b, o, x, rfl, hx, hb, hc⟩ := HL.out.atO hlt
      have hkl := (List.getElem?_eq_some_iff.1 hx).1
      have HT := Lib.hid (show (l.take (k + 1)).map OA.m = (l.take k).map OA.m ++ [x.m] by rw [List.take_succ_eq_append_getElem hkl, (List.getElem?_eq_some_iff.1 hx).2, List.map_append]; rfl)
      have hcr : ∀ c v, (encO x)[c]? = some v → wr.cell? ⟨b, o + k * 10 + c, none⟩ = some v := fun c v hv => cell_later HS.out.bel (hc c v hv)
      have c2 := hcr 2 _ rfl
      have c3 := hcr 3 _ rfl
      have c4 := hcr 4 _ rfl
      have c5 := hcr 5 _ rfl
      have c6 := hcr 6 _ rfl
      have c7 := hcr 7 _ rfl
      have hsn : s.n ≤ 60 := by rw [← HS.out.slot.len, List.length_map, List.length_take]; omega
      have HSN := Lib.hid hsn
      clear hcr hc hx hkl hsn
      obtain ⟨kind, p, ⟨f, q, sx, v, da, dl, dc, deps, text⟩, seq, st⟩ := x
      simp only at c2 c3 c4 c5 c6 c7 HT
      have HL7 := Lib.hid (lst_one (MgB.new wr ⟨f, q, sx, v, da, dl, dc, deps, text⟩))
      have HS7 := Lib.hid (HS.out.later ((Grw.refl wr).alloc (.cells #[.int .i64 f, .int .u32 q, .int .u64 sx, .int .i64 v, .slice da dl dc, .string text] 47)).below)
      clear HS
      by_cases hk3 : k < 60
      · have hkz : ¬ (60 : Int) ≤ (k : Int) := by omega
        go_wp2_with (at_builtin; refine wpList_append_h rfl (.tmp 11) (.tmp 17) rfl s _ rfl HS7.out.slot ⟨wr.heap.size, 0, none⟩ 1 1 [⟨f, q, sx, v, da, dl, dc, deps, text⟩] rfl HL7.out (by decide) (by have := HSN.out; omega) ?_; intro s' w' hs' hn' hg' hl')
        clear hn'
        have HS8 := Lib.hid (HS7.out.more hs' hg' hl')
        clear hs' hg' hl' HS7 HL7
        unfold Sl.v
        go_roundw
        case rel => exact ⟨k + 1, s', by omega, by omega, by go_num, rfl, Lib.hid (by rw [HT.out]; exact HS8.out)⟩
        case measure => simp [intOf]; omega
      · have hkz : (60 : Int) ≤ (k : Int) := by omega
        go_wp2_with (at_builtin; refine wpList_append_h rfl (.tmp 11) (.tmp 17) rfl s _ rfl HS7.out.slot ⟨wr.heap.size, 0, none⟩ 1 1 [⟨f, q, sx, v, da, dl, dc, deps, text⟩] rfl HL7.out (by decide) (by have := HSN.out; omega) ?_; intro s' w' hs' hn' hg' hl')
        clear hn'
        have HS8 := Lib.hid (HS7.out.more hs' hg' hl')
        clear hs' hg' hl' HS7 HL7
        go_ret
        exact ⟨.inl rfl, HS8.out.bel⟩
    · have e1 : l.take k = l := List.take_of_length_le (by rw [HL.out.size]; omega)
      have hS := HS.out
      rw [e1] at hS
      have PF := fewG_any s.a s.n s.c (l.map OA.m) wr hS.slot.lst
      have HB := Lib.hid hS.bel
      clear hS HS e1
      go_wp2_with fail
      refine PF.mono ?_
      rintro e w2 ⟨h2, B2⟩
      have HB2 := Lib.hid (HB.out.trans (B2.mono HB.out.size))
      clear PF B2
      rcases h2 with rfl | ⟨rfl, hlen, hdl⟩
      · go_wp2
        go_ret
        exact ⟨.inl rfl, HB2.out⟩
      · have HDL := Lib.hid hdl
        clear hdl
        go_wp2
        go_ret
        exact ⟨.inr ⟨rfl, by omega, fun a ha => HDL.out a.m (List.mem_map_of_mem ha)⟩, HB2.out⟩
end Go.Proofs.Ytfocjcdfpnbkjaa

/- Rows that grow beside orders. -/
set_option linter.unusedVariables false
set_option maxRecDepth 100000
set_option linter.unusedSimpArgs false
namespace Go.Proofs.Ytfocjcdfpnbkjaa
open Go.RowKit Go.Sort Go.Shelf

theorem wpList_append_at {w : World} {ops : Array Oper} {rest : List Oper} {o : Oper} {a : Act} {Q : Exit → Act → World → Prop} (hgd : o.guard = none) (sx x : Operand)
    (ho : o.op = .call { callee := .builtin .append, args := #[sx, x], argTypes := #[29, 29] })
    (base : Nat) (v : Value) (n : Nat) (X : List Mg) (hs : a.eval sx = v) (hown : w.ownsRow base 47 6 v n (flat encG X)) (ta : Option Addr) (tn tc : Nat) (Y : List Mg) (hx : a.eval x = .slice ta tn tc) (hl : Lst encG 6 w ta tn Y) (h0 : ta = none → tn = 0 ∧ tc = 0) (hn : n + tn ≤ 200000) (hbase : base ≤ w.heap.size)
    (hK : ∀ v' w', w'.ownsRow base 47 6 v' (n + tn) (flat encG (X ++ Y)) → w.grownBy w' v.ownBlock → (v'.ownBlock = v.ownBlock ∨ v'.ownBlock = some w.heap.size) → wpList Try.prog ops Q rest (a.put o.dst v') w') : wpList Try.prog ops Q (o :: rest) a w := by
  obtain ⟨i0, hi, hz0, hz1, hz2⟩ := info_parts infoMg
  have ht := Try.underlying29
  cases ta with
  | none =>
    obtain ⟨rfl, rfl⟩ := h0 rfl
    have hY : Y = [] := List.eq_nil_of_length_eq_zero hl.size
    subst hY
    refine wpList_append_own_none hgd sx x 29 ho base 47 i0 6 ht hi _ n _ hs hown hx ?_
    refine hK v w ?_ (World.grownBy.refl w _) (.inl rfl)
    rw [List.append_nil, Nat.add_zero]; exact hown
  | some ad =>
    refine wpList_append_own_at w hgd sx x 29 ho base 47 i0 zeroMg 6 72 ht hi hz0 hz1 hz2 rfl (by decide) _ n _ hs hown ad tn tc (flat encG Y) hx (by rw [flat_length encG 6 encG_length, hl.size]) (fun j u hu => ?_) flatG_one (by unfold maxLen; omega) (by omega) hbase (fun v' w' h1 h2 _ h4 => hK v' w' ?_ h2 h4)
    · have hj : 0 < tn := by
        have := (List.getElem?_eq_some_iff.1 hu).1
        rw [flat_length encG 6 encG_length, hl.size] at this
        omega
      obtain ⟨b, o', e', R⟩ := hl.src hj
      cases e'
      rw [add_lit10]
      exact R.flat encG_length j u hu
    · rw [flat_append]; exact h1
theorem own_none {w : World} {base n c : Nat} {xs : List Value} {a : Option Addr} (h : w.ownsRow base 47 6 (.slice a n c) n xs) : a = none → n = 0 ∧ c = 0 := by
  rintro rfl
  rcases h.2 with ⟨h1, _⟩ | ⟨g1, cc, cur, h1, _⟩
  · injection h1 with _ h1 h2; exact ⟨h1, h2⟩
  · cases h1
section
variable {E E' : Nat → Prop} {B B' : Nat} {w w' w'' : World} {v v' : Value} {n m : Nat} {X Y : List Mg}
theorem RowO.below (h : RowO E B w v n X) (hb : Below w.heap.size w w') : RowO E B w' v n X := ⟨own_later h.own hb, h.len, h.ne, fun x hx => (h.deps x hx).below hb⟩
/-- Some other blocks have turned. -/
theorem RowO.kept (h : RowO E B w v n X) (hc : Chg E w w') (hE : ∀ k, E' k → newF E w w' k) : RowO E' B w' v n X := by
  refine ⟨own_kept h.own fun k hk => hc.block k (own_ltD h.own k hk) (h.ne k hk), h.len, fun k hk he => ?_, fun x hx => ?_⟩
  · rcases hE k he with e | e
    · exact h.ne k hk e
    · have := own_ltD h.own k hk; omega
  · have h1 := h.deps x hx
    have h2 := h1.kept (w' := w') fun ad e => hc.block _ (h1.lt ad e) (h1.typ ad e).1.2
    refine ⟨h2.deps, h2.few, fun ad e => ⟨⟨(h1.typ ad e).1.1, fun he => ?_⟩, (h2.typ ad e).2⟩⟩
    rcases hE _ he with e2 | e2
    · exact (h1.typ ad e).1.2 e2
    · have := h1.lt ad e; omega
theorem RowO.none (w : World) : RowO E B w (.slice none 0 0) 0 [] := ⟨World.ownsRow_nil _ _ _ _, rfl, (fun k hk => by simp [Value.ownBlock] at hk), (fun x hx => by cases hx)⟩
theorem RowO.lst {a : Option Addr} {n c : Nat} (h : RowO E B w (.slice a n c) n X) : Lst encG 6 w a n X := own_lst' encG_length h.len h.own
theorem RowO.dps (h : RowO E B w v n X) : ∀ x ∈ X, DpIn w x ∧ x.dl ≤ 1048576 := fun x hx => ⟨(h.deps x hx).deps, (h.deps x hx).few⟩
/-- Another row behind it. -/
theorem RowO.app (h : RowO E B w v n X) (k : RowO E B' w v' m Y) (hB : B ≤ B') (hE : ∀ j, E j → j < w.heap.size) {v2 : Value} (ho : w'.ownsRow B 47 6 v2 (n + m) (flat encG (X ++ Y))) (hg : w.grownBy w' v.ownBlock) (hl : v2.ownBlock = v.ownBlock ∨ v2.ownBlock = some w.heap.size) : RowO E B w' v2 (n + m) (X ++ Y) := by
  have kb : ∀ {P : Nat → Prop} x, DpT w P x → DpT w' P x := fun x hx => hx.kept fun ad e => hg.block _ (hx.lt ad e) fun e2 => by
    obtain ⟨_, cur, hc⟩ := own_typ h.own _ e2
    exact hx.ne ad e hc rfl
  refine ⟨ho, by rw [List.length_append, h.len, k.len], fun j hj he => ?_, fun x hx => ?_⟩
  · rcases hl with e | e
    · exact h.ne j (by rw [← e]; exact hj) he
    · rw [e] at hj; injection hj with hj; have := hE j he; omega
  · rcases List.mem_append.1 hx with hx | hx
    · exact kb x (h.deps x hx)
    · exact (kb x (k.deps x hx)).more fun j _ hj => ⟨Nat.le_trans hB hj.1, hj.2⟩
end
section
variable {w wr : World} {g N : Nat} {O : Od}
theorem oo_act (h : OwnO w wr g N O) (hN : N ≤ 999) (a : OA) (ha : a.ok wr) (hdl : a.m.dl ≤ 1048576) :
    Calls Try.prog 32 #[.pointer (some ⟨g, 0, none⟩), .agg (encO a).toArray] wr fun e w' => (∃ a n c, e = .returned (.slice a n c)) ∧ OwnO w w' g (N + 1) (stepO O a).1 := by
  obtain ⟨E, h1, h2⟩ := h.ex
  refine (oact h1 hN a ha hdl).mono fun e w' hs => ?_
  obtain ⟨b, n, c, X, E', k1, k2, k3, k4, k5, k6⟩ := hs.ex
  refine ⟨⟨b, n, c, k1⟩, ⟨_, k4, fun k hk => ?_⟩, h.bel.trans (k5.below h.bel.size h2)⟩
  rcases k6 k hk with e | e
  · exact h2 k e
  · have := h.bel.size; omega
end
/-- What is known of an act, wherever its Deps lie. -/
structure OA.okN (a : OA) : Prop where
  p0 : -9223372036854775808 ≤ a.p
  p1 : a.p ≤ 9223372036854775807
  q : a.seq < 4294967296
  s : a.st < 18446744073709551616
  m : a.m.okS
theorem OA.ok.n {w : World} {a : OA} (h : a.ok w) : a.okN := ⟨h.p0, h.p1, h.q, h.s, h.m⟩
theorem step_okO {O : Od} (h : O.ok) {a : OA} (ha : a.okN) : (stepO O a).1.ok := by
  unfold stepO
  split
  · exact take_ok h ha.m
  split
  · refine h.withH ?_
    have := ok_step h.hz (a := ⟨1, a.p, a.seq, a.st⟩) ⟨show (-9223372036854775808 : Int) ≤ 1 by decide, show (1 : Int) ≤ 9223372036854775807 by decide, ha.p0, ha.p1, ha.q, ha.s⟩
    rwa [(stepZ_1 rfl).1] at this
  split
  · refine h.withH ?_
    have := ok_step h.hz (a := ⟨2, a.p, a.seq, a.st⟩) ⟨show (-9223372036854775808 : Int) ≤ 2 by decide, show (2 : Int) ≤ 9223372036854775807 by decide, ha.p0, ha.p1, ha.q, ha.s⟩
    rwa [(stepZ_2 rfl).1] at this
  split
  · exact (drainO_is h).ok h
  split
  · exact trim_ok h _ _
  · exact h
theorem run_okO : ∀ (l : List OA) {O : Od}, O.ok → (∀ a ∈ l, a.okN) → (runO O l).ok
  | [], _, h, _ => h
  | a :: l, _, h, ha => run_okO l (step_okO h (ha a List.mem_cons_self)) fun x hx => ha x (List.mem_cons_of_mem _ hx)
theorem run_leftO : ∀ (l : List OA) (O : Od), O.ok → (∀ a ∈ l, a.okN) → leftO (runO O l) + (outO O l).length ≤ leftO O + l.length
  | [], O, _, _ => by show leftO O + 0 ≤ leftO O + 0; omega
  | a :: l, O, h, ha => by
    have h1 := step_left h a
    have h2 := run_leftO l (stepO O a).1 (step_okO h (ha a List.mem_cons_self)) fun x hx => ha x (List.mem_cons_of_mem _ hx)
    show leftO (runO (stepO O a).1 l) + ((stepO O a).2 ++ outO (stepO O a).1 l).length ≤ leftO O + (l.length + 1)
    rw [List.length_append]
    omega
theorem left_new (me : Int) (s : Nat) : leftO (newO me s) = 0 := by
  have : ∀ k, leftK (newO me s) k = 0 := by
    intro k
    induction k with
    | zero => rfl
    | succ k ih => unfold leftK; rw [ih]; rfl
  exact this 64
end Go.Proofs.Ytfocjcdfpnbkjaa
