/- Cleaning a packet: its lists in new memory. -/
import Derived.Test.YtgkddjapcdjalaaPkVal
import Derived.Test.YtgkddjapcdjalaaClone
import Derived.Lib.SliceRun
import Derived.Lib.Slices
import Derived.Lib.Walk
import Derived.Deep.Slices
import Derived.Deep.RegionWith
set_option linter.unusedVariables false
set_option linter.unusedSimpArgs false
namespace Go.Proofs.Ytgkddjapcdjalaa
open Go.RowKit Go.Sort

section
variable {α : Type}
/-- The cells of some elements, one behind the other. -/
def flat (enc : α → List Value) (l : List α) : List Value := (l.map enc).flatten
theorem flat_nil (enc : α → List Value) : flat enc [] = [] := rfl
theorem flat_cons (enc : α → List Value) (x : α) (l : List α) : flat enc (x :: l) = enc x ++ flat enc l := rfl
theorem flat_append (enc : α → List Value) (l r : List α) : flat enc (l ++ r) = flat enc l ++ flat enc r := by unfold flat; rw [List.map_append, List.flatten_append]
theorem flat_length (enc : α → List Value) (k : Nat) (hk : ∀ x, (enc x).length = k) (l : List α) : (flat enc l).length = l.length * k := by
  induction l with
  | nil => simp [flat_nil]
  | cons x t ih => rw [flat_cons, List.length_append, hk, ih, List.length_cons, Nat.add_mul, Nat.one_mul, Nat.add_comm]
theorem flat_at (enc : α → List Value) (k : Nat) (hk : ∀ x, (enc x).length = k) (l : List α) (i : Nat) (x : α) (h : l[i]? = some x) (c : Nat) (hc : c < k) : (flat enc l)[i * k + c]? = (enc x)[c]? := by
  obtain ⟨hlt, rfl⟩ := List.getElem?_eq_some_iff.1 h
  have e : l = l.take i ++ l[i] :: l.drop (i + 1) := by
    conv => lhs; rw [← List.take_append_drop i l, List.drop_eq_getElem_cons hlt]
  conv => lhs; rw [e, flat_append, flat_cons]
  have hl : (flat enc (l.take i)).length = i * k := by rw [flat_length enc k hk, List.length_take, Nat.min_eq_left (by omega)]
  rw [List.getElem?_append_right (by omega), hl, Nat.add_sub_cancel_left, List.getElem?_append_left (by rw [hk]; exact hc)]
theorem flat_split (enc : α → List Value) (k : Nat) (hk : ∀ x, (enc x).length = k) (l : List α) (j : Nat) (u : Value) (h : (flat enc l)[j]? = some u) : ∃ i x c, l[i]? = some x ∧ (enc x)[c]? = some u ∧ c < k ∧ j = i * k + c := by
  have hj : j < l.length * k := by rw [← flat_length enc k hk]; exact (List.getElem?_eq_some_iff.1 h).1
  have k0 : 0 < k := by
    rcases Nat.eq_zero_or_pos k with e | e
    · subst e; simp at hj
    · exact e
  have hi : j / k < l.length := Nat.div_lt_of_lt_mul (by rwa [Nat.mul_comm] at hj)
  have hd : j / k * k + j % k = j := by rw [Nat.mul_comm]; exact Nat.div_add_mod j k
  have hm := Nat.mod_lt j k0
  refine ⟨j / k, l[j / k], j % k, List.getElem?_eq_getElem hi, ?_, hm, hd.symm⟩
  rw [← flat_at enc k hk l (j / k) _ (List.getElem?_eq_getElem hi) (j % k) hm, hd]
  exact h
end
theorem add_flat (b o j : Nat) : (⟨b, o, none⟩ : Addr).add j = ⟨b, o + j, none⟩ := by cases j <;> simp [Addr.add]

set_option maxHeartbeats 2000000 in
set_option maxRecDepth 100000 in
theorem clone32_some (ad : Addr) (n c : Nat) (vs : List Nat) (w : World) (hl : vs.length = n) (hn : n ≤ 1048576) (hc : ∀ (j x : Nat), vs[j]? = some x → w.cell? (ad.add j) = some (.int .u32 (x : Int))) :
    Calls Try.prog 32 #[.slice (some ad) n c] w fun e w' => ∃ v', e = .returned v' ∧ w'.ownsRow w.heap.size 29 1 v' n (vs.map fun x : Nat => Value.int .u32 (x : Int)) ∧ Below w.heap.size w w' := by
  obtain ⟨i0, hi, hz0, hz1, hz2⟩ := info_parts Try.info32
  have q : ∀ (w : World) (a : Option Addr) (n c n' c' : Nat), (binOp .eql 30 (.slice a n c) (.slice none n' c')).run Try.prog w = .ok (.bool a.isNone) w := fun w a n c n' c' => Lib.run_eql_slice_nil w _ _ a n c n' c' Try.underlying30
  have HC := Lib.hid hc
  have HL := Lib.hid hl
  clear hc hl
  go_enter Try.func32, Try.ntmps32
  go_wp2_with (at_builtin; refine wpList_append_own _ rfl _ _ 30 rfl w.heap.size 29 i0 (.int .u32 0) 1 4 Try.underlying30 hi hz0 hz1 hz2 rfl (by decide) _ _ _ rfl (World.ownsRow_made w #[] 0 (Nat.le_refl _) (Nat.zero_le _) (by simp)) ad n c (vs.map fun x : Nat => Value.int .u32 (x : Int)) rfl ?qc1 ?qc2 ?qc3 ?qc4 ?qc5 ?qc6 ?_)
  case qc1 => rw [List.length_map, HL.out, Nat.mul_one]
  case qc2 =>
    intro j u hj
    rw [List.getElem?_map] at hj
    cases hv : vs[j]? with
    | none => rw [hv] at hj; cases hj
    | some x =>
      rw [hv] at hj
      have hu : Value.int .u32 (x : Int) = u := by simpa using hj
      rw [← hu]
      exact cell_later ((Grw.refl w).alloc _).below (HC.out j x hv)
  case qc3 => intro u hu; obtain ⟨x, _, rfl⟩ := List.mem_map.1 hu; rfl
  case qc4 => rw [Nat.zero_add]; unfold maxLen; omega
  case qc5 => rw [Nat.zero_add]; omega
  case qc6 => simp
  intro v' w1 hown hgrow hnil
  go_wp2
  go_ret
  refine ⟨v', rfl, by simpa using hown, ?_⟩
  exact ((Below.refl _ w).alloc (Nat.le_refl _) _).grown hgrow (by simp) (by intro k hk; simp [Value.ownBlock] at hk; omega)
set_option maxHeartbeats 1000000 in
theorem clone32_nil (n c : Nat) (w : World) : Calls Try.prog 32 #[.slice none n c] w fun e w' => e = .returned (.slice none 0 0) ∧ w = w' := by
  have q : ∀ (w : World) (a : Option Addr) (n c n' c' : Nat), (binOp .eql 30 (.slice a n c) (.slice none n' c')).run Try.prog w = .ok (.bool a.isNone) w := fun w a n c n' c' => Lib.run_eql_slice_nil w _ _ a n c n' c' Try.underlying30
  go_enter Try.func32, Try.ntmps32
  go_wp2
  go_ret
  exact ⟨rfl, rfl⟩
theorem clone32_any (v : Vc) (vs : List Nat) (w : World) (hv : VecAt w v vs) (hn : v.n ≤ 1048576) :
    Calls Try.prog 32 #[.slice v.a v.n v.c] w fun e w' => ∃ v' : Vc, e = .returned (.slice v'.a v'.n v'.c) ∧ OwnVec w.heap.size w' v' vs ∧ Below w.heap.size w w' := by
  obtain ⟨a, n, c⟩ := v
  cases a with
  | none =>
    obtain ⟨h0, _⟩ := hv.nil rfl
    have hl := hv.len
    simp only at h0 hl
    obtain rfl : vs = [] := List.eq_nil_of_length_eq_zero (by omega)
    refine (clone32_nil n c w).mono ?_
    rintro e w' ⟨rfl, rfl⟩
    exact ⟨Vc.nil, rfl, OwnVec.nil _ _, Below.refl _ _⟩
  | some ad =>
    refine (clone32_some ad n c vs w hv.len hn (fun j x hj => ?_)).mono ?_
    · obtain ⟨b, o, e, hc⟩ := hv.at_ j x hj
      simp only [Option.some.injEq] at e
      rw [e, add_flat]; exact hc
    rintro e w' ⟨v', rfl, hown, hB⟩
    have hl : vs.length = n := hv.len
    rcases hown.2 with ⟨rfl, h0⟩ | ⟨g, cap, cur, rfl, hg, ho, _, _, _, htk⟩
    · obtain rfl : vs = [] := List.eq_nil_of_length_eq_zero (by omega)
      exact ⟨Vc.nil, rfl, OwnVec.nil _ _, hB⟩
    · refine ⟨⟨some ⟨g, 0, none⟩, n, cap⟩, rfl, ⟨hl, .inr ⟨g, cur, rfl, hg, ho, fun j x hj => ?_⟩, hv.words⟩, hB⟩
      have hj' : j < n * 1 := by have := (List.getElem?_eq_some_iff.1 hj).1; omega
      have e2 : (cur.toList.take (n * 1))[j]? = cur.toList[j]? := by rw [List.getElem?_take, if_pos hj']
      rw [htk, List.getElem?_map, hj] at e2
      simpa using e2.symm

/-- A slice's copy, of exchanges: the lists in them are shared. -/
structure XsPair (w : World) (v : Vc) (l : List (PX × Vc)) : Prop where
  vec : ∀ p ∈ l, VecAt w p.2 p.1.cnt
  at_ : ∀ (j : Nat) (p : PX × Vc), l[j]? = some p → ∃ b o, v.a = some ⟨b, o, none⟩ ∧ ∀ (c : Nat) (u : Value), (encX p.1 p.2)[c]? = some u → w.cell? ⟨b, o + j * 6 + c, none⟩ = some u
theorem XsAt.pair {w : World} {v : Vc} {l : List PX} (h : XsAt w v l) : ∃ ps : List (PX × Vc), ps.map (·.1) = l ∧ XsPair w v ps := by
  have each : ∀ i, i < l.length → ∃ q : Vc, ∀ x, l[i]? = some x → VecAt w q x.cnt ∧ ∃ b o, v.a = some ⟨b, o, none⟩ ∧ ∀ (c : Nat) (u : Value), (encX x q)[c]? = some u → w.cell? ⟨b, o + i * 6 + c, none⟩ = some u := by
    intro i hi
    obtain ⟨b, o, vc, e, hv, hc⟩ := h.at_ i _ (List.getElem?_eq_getElem hi)
    refine ⟨vc, fun x hx => ?_⟩
    obtain rfl : l[i] = x := by rw [List.getElem?_eq_getElem hi] at hx; simpa using hx
    exact ⟨hv, b, o, e, hc⟩
  obtain ⟨z, hz⟩ := Deep.choose_lt each
  refine ⟨l.zipIdx.map fun p => (p.1, z p.2), ?_, ⟨fun p hp => ?_, fun j p hp => ?_⟩⟩
  · apply List.ext_getElem?
    intro i
    simp only [List.getElem?_map, List.getElem?_zipIdx]
    cases l[i]? <;> rfl
  · obtain ⟨i, hi⟩ := List.mem_iff_getElem?.1 hp
    rw [List.getElem?_map, List.getElem?_zipIdx] at hi
    cases hx : l[i]? with
    | none => rw [hx] at hi; cases hi
    | some x =>
      rw [hx] at hi
      have : p = (x, z i) := by simpa using hi.symm
      rw [this]
      exact (hz i (List.getElem?_eq_some_iff.1 hx).1 x hx).1
  · rw [List.getElem?_map, List.getElem?_zipIdx] at hp
    cases hx : l[j]? with
    | none => rw [hx] at hp; cases hp
    | some x =>
      rw [hx] at hp
      have : p = (x, z j) := by simpa using hp.symm
      rw [this]
      exact (hz j (List.getElem?_eq_some_iff.1 hx).1 x hx).2
def encPr (p : PX × Vc) : List Value := encX p.1 p.2
theorem encPr_length (p : PX × Vc) : (encPr p).length = 6 := rfl
set_option maxHeartbeats 2000000 in
set_option maxRecDepth 100000 in
theorem cloneX_some (ad : Addr) (n c : Nat) (ps : List (PX × Vc)) (w : World) (hl : ps.length = n) (hn : n ≤ 1048576) (hc : ∀ j u, (flat encPr ps)[j]? = some u → w.cell? (ad.add j) = some u) :
    Calls Try.prog 60 #[.slice (some ad) n c] w fun e w' => ∃ v', e = .returned v' ∧ w'.ownsRow w.heap.size 50 6 v' n (flat encPr ps) ∧ Below w.heap.size w w' := by
  obtain ⟨i0, hi, hz0, hz1, hz2⟩ := info_parts Try.infoX
  have q : ∀ (w : World) (a : Option Addr) (n c n' c' : Nat), (binOp .eql 33 (.slice a n c) (.slice none n' c')).run Try.prog w = .ok (.bool a.isNone) w := fun w a n c n' c' => Lib.run_eql_slice_nil w _ _ a n c n' c' Try.underlying33
  have HC := Lib.hid hc
  have HL := Lib.hid hl
  clear hc hl
  go_enter Try.func60, Try.ntmps60
  go_wp2_with (at_builtin; refine wpList_append_own _ rfl _ _ 33 rfl w.heap.size 50 i0 zeroX 6 64 Try.underlying33 hi hz0 hz1 hz2 rfl (by decide) _ _ _ rfl (World.ownsRow_made w #[] 0 (Nat.le_refl _) (Nat.zero_le _) (by simp)) ad n c (flat encPr ps) rfl ?qc1 ?qc2 ?qc3 ?qc4 ?qc5 ?qc6 ?_)
  case qc1 => rw [flat_length encPr 6 encPr_length, HL.out]
  case qc2 => exact fun j u hj => cell_later ((Grw.refl w).alloc _).below (HC.out j u hj)
  case qc3 =>
    intro u hu
    unfold flat at hu
    obtain ⟨cs, hcs, huc⟩ := List.mem_flatten.1 hu
    obtain ⟨p, _, rfl⟩ := List.mem_map.1 hcs
    simp only [encPr, encX, List.mem_cons, List.not_mem_nil, or_false] at huc
    rcases huc with rfl | rfl | rfl | rfl | rfl | rfl <;> rfl
  case qc4 => rw [Nat.zero_add]; unfold maxLen; omega
  case qc5 => rw [Nat.zero_add]; omega
  case qc6 => simp
  intro v' w1 hown hgrow hnil
  go_wp2
  go_ret
  refine ⟨v', rfl, by simpa using hown, ?_⟩
  exact ((Below.refl _ w).alloc (Nat.le_refl _) _).grown hgrow (by simp) (by intro k hk; simp [Value.ownBlock] at hk; omega)
set_option maxHeartbeats 1000000 in
theorem cloneX_nil (n c : Nat) (w : World) : Calls Try.prog 60 #[.slice none n c] w fun e w' => e = .returned (.slice none 0 0) ∧ w = w' := by
  have q : ∀ (w : World) (a : Option Addr) (n c n' c' : Nat), (binOp .eql 33 (.slice a n c) (.slice none n' c')).run Try.prog w = .ok (.bool a.isNone) w := fun w a n c n' c' => Lib.run_eql_slice_nil w _ _ a n c n' c' Try.underlying33
  go_enter Try.func60, Try.ntmps60
  go_wp2
  go_ret
  exact ⟨rfl, rfl⟩
/-- k of the exchanges of a copy have lists of their own; the others still share theirs. -/
structure XsCl (B : Nat) (w0 : World) (g : Nat) (w : World) (ps : List (PX × Vc)) (k : Nat) (cur : Array Value) : Prop where
  row : Own w g 50 cur
  ge : B ≤ g
  bel : Below B w0 w
  size : ps.length * 6 ≤ cur.size
  at_ : ∀ (j : Nat) (p : PX × Vc), ps[j]? = some p → ∃ vc, (∀ (c : Nat) (u : Value), (encX p.1 vc)[c]? = some u → cur[j * 6 + c]? = some u) ∧ (j < k → OwnVec B w vc p.1.cnt) ∧ (k ≤ j → vc = p.2)
theorem cloneX_any (v : Vc) (ps : List (PX × Vc)) (w : World) (hl : ps.length = v.n) (hp : XsPair w v ps) (hnil : v.a = none → v.n = 0 ∧ v.c = 0) (hn : v.n ≤ 1048576) :
    Calls Try.prog 60 #[.slice v.a v.n v.c] w fun e w' => (ps = [] ∧ e = .returned (.slice none 0 0) ∧ Below w.heap.size w w') ∨ ∃ g cap cur, e = .returned (.slice (some ⟨g, 0, none⟩) v.n cap) ∧ XsCl w.heap.size w g w' ps 0 cur := by
  obtain ⟨a, n, c⟩ := v
  cases a with
  | none =>
    obtain ⟨h0, _⟩ := hnil rfl
    simp only at h0 hl
    obtain rfl : ps = [] := List.eq_nil_of_length_eq_zero (by omega)
    refine (cloneX_nil n c w).mono ?_
    rintro e w' ⟨rfl, rfl⟩
    exact .inl ⟨rfl, rfl, Below.refl _ _⟩
  | some ad =>
    refine (cloneX_some ad n c ps w hl hn (fun j u hj => ?_)).mono ?_
    · obtain ⟨i, x, c', hx, hc, _, rfl⟩ := flat_split encPr 6 encPr_length ps j u hj
      obtain ⟨b, o, e, hcc⟩ := hp.at_ i x hx
      simp only [Option.some.injEq] at e
      rw [e, add_flat, ← Nat.add_assoc]
      exact hcc c' u hc
    rintro e w' ⟨v', rfl, hown, hB⟩
    simp only at hl
    rcases hown.2 with ⟨rfl, h0⟩ | ⟨g, cap, cur, rfl, hg, ho, hnc, _, hcs, htk⟩
    · obtain rfl : ps = [] := List.eq_nil_of_length_eq_zero (by omega)
      exact .inl ⟨rfl, rfl, hB⟩
    · refine .inr ⟨g, cap, cur, rfl, ⟨ho, hg, hB, by rw [hl, hcs]; omega, fun j p hj => ⟨p.2, fun c u hu => ?_, fun h => absurd h (Nat.not_lt_zero _), fun _ => rfl⟩⟩⟩
      have hc6 : c < 6 := (List.getElem?_eq_some_iff.1 hu).1
      have hjl := (List.getElem?_eq_some_iff.1 hj).1
      have e1 := flat_at encPr 6 encPr_length ps j p hj c hc6
      rw [← htk, List.getElem?_take, if_pos (by omega)] at e1
      rw [show (encPr p)[c]? = some u from hu] at e1
      simpa using e1
end Go.Proofs.Ytgkddjapcdjalaa
