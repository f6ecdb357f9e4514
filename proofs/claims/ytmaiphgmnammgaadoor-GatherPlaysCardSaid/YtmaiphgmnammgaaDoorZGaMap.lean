/- A map by numbers (its keys are ints): what stands in it as a function of the number, whatever its values are. -/
import Derived.Test.YtmaiphgmnammgaaDoorZGrws
import Derived.Maps.RangeWalk
set_option linter.unusedVariables false
set_option linter.unusedSimpArgs false
namespace Go.Proofs.YtmaiphgmnammgaaDoor
open Go.RowKit Go.Sort Go.Maps

theorem keyI : Keyed Tryd.prog 3 := int_keyed Tryd.underlying3
def I64k (k : Int) : Prop := -9223372036854775808 ≤ k ∧ k ≤ 9223372036854775807
theorem wf_i64k (k : Int) (h : I64k k) : (Lit.int .i64 k).wf = true := by
  have h1 : IntKind.i64.min = -9223372036854775808 := by decide
  have h2 : IntKind.i64.max = 9223372036854775807 := by decide
  simp [Lit.wf, h1, h2]
  exact h
theorem keyOfI (k : Int) (h : I64k k) : keyOf Tryd.prog 3 (.int .i64 k) = some (.int .i64 k) := keyOf_int_mk Tryd.underlying3 (wf_i64k k h)
theorem isKeyI (k : Int) (h : I64k k) : WideAt.IsKeyLit (.int .i64 k) := keyI.key (keyOfI k h)
theorem litI_ne {j k : Int} (h : j ≠ k) : Lit.int .i64 j ≠ Lit.int .i64 k := by
  intro e
  injection e with _ e
  exact h e
section
variable {α : Type}
/-- How a value in a map reads: as itself. -/
noncomputable def rdE (enc : α → Value) (v : Value) : Option (DataW Value × List MemPlace) :=
  open Classical in if ∃ m : α, v = enc m then some (.held v, []) else none
theorem rdE_mk (enc : α → Value) (m : α) : rdE enc (enc m) = some (.held (enc m), []) := by unfold rdE; rw [if_pos ⟨m, rfl⟩]
theorem rdE_inv {enc : α → Value} {v : Value} {y : DataW Value × List MemPlace} (h : rdE enc v = some y) : (∃ m : α, v = enc m) ∧ y = (.held v, []) := by
  unfold rdE at h
  split at h
  · rename_i hm; injection h with h; exact ⟨hm, h.symm⟩
  · cases h
/-- Block b is a map of n values, of which at k stands H k. -/
structure MapI (enc : α → Value) (w : World) (b : Nat) (H : Int → Option α) (n : Nat) : Prop where
  ex : ∃ D : DataW Value, w.ownsMap Tryd.prog 3 (rdE enc) b n D ∧ size D = n ∧
    (∀ k : Int, I64k k → H k = none → has D (.int .i64 k) = false) ∧ (∀ k : Int, I64k k → ∀ m, H k = some m → ∀ z, D.atKey (.int .i64 k) z = .held (enc m))
variable {enc : α → Value} {w w' : World} {b n : Nat} {H : Int → Option α}
theorem MapI.made (enc : α → Value) (w : World) : MapI enc (w.alloc (.map #[] 0)) w.heap.size (fun _ => none) 0 :=
  ⟨_, World.ownsMap_made w _ _ _, rfl, fun k _ _ => rfl, fun k _ m h => by cases h⟩
theorem MapI.lt (h : MapI enc w b H n) : b < w.heap.size := by
  obtain ⟨D, ho, _⟩ := h
  exact ho.lt
theorem MapI.is (h : MapI enc w b H n) : ∃ es c, w.heap[b]? = some (.map es c) := by
  obtain ⟨D, ⟨es, clock, h1, _⟩, _⟩ := h
  exact ⟨es, clock, h1⟩
theorem MapI.kept (h : MapI enc w b H n) (hb : w'.heap[b]? = w.heap[b]?) : MapI enc w' b H n := by
  obtain ⟨D, ⟨es, clock, h1, r1⟩, r⟩ := h
  exact ⟨D, ⟨es, clock, hb.trans h1, r1⟩, r⟩
theorem MapI.below (h : MapI enc w b H n) (hb : Below w.heap.size w w') : MapI enc w' b H n := h.kept (hb.block b h.lt)
/-- 'm[k]', 'v, ok := m[k]'. -/
theorem MapI.look (h : MapI enc w b H n) {mt vt : TypeId} (ht : Tryd.prog.underlying mt = some (.map 3 vt)) (z0 : α) (hz : ∀ w, (zeroValue vt).run Tryd.prog w = .ok (enc z0) w) (k : Int) (hk : I64k k) :
    (Instr.lookup mt (.map (some b)) (.int .i64 k) false).run Tryd.prog w = .ok (enc ((H k).getD z0)) w ∧
    (Instr.lookup mt (.map (some b)) (.int .i64 k) true).run Tryd.prog w = .ok (.tuple #[enc ((H k).getD z0), .bool (H k).isSome]) w := by
  obtain ⟨D, ho, _, h2, h3⟩ := h
  have key : ∀ v ps, rdE enc v = some (D.atKey (.int .i64 k) (.held (enc z0)), ps) → v = enc ((H k).getD z0) := by
    intro v ps hv
    obtain ⟨⟨m, rfl⟩, hy⟩ := rdE_inv hv
    simp only [Prod.mk.injEq] at hy
    cases hH : H k with
    | none =>
      rw [atKey_of_not_has (h2 k hk hH)] at hy
      simpa using hy.1.symm
    | some x =>
      rw [h3 k hk x hH] at hy
      simpa using hy.1.symm
  constructor
  · obtain ⟨v, ps, hrun, hv⟩ := ho.lookup keyI ht (hz w) (rdE_mk enc z0) (keyOfI k hk)
    rw [hrun, key v ps hv]
  · obtain ⟨v, ps, hrun, hv⟩ := ho.look_ok keyI ht (hz w) (rdE_mk enc z0) (keyOfI k hk)
    have hb : has D (.int .i64 k) = (H k).isSome := by
      cases hH : H k with
      | none => exact h2 k hk hH
      | some x => exact has_true_of_atKey (h3 k hk x hH)
    rw [hrun, key v ps hv, hb]
def setI (H : Int → Option α) (k : Int) (x : Option α) : Int → Option α := fun j => if j = k then x else H j
theorem setI_same (H : Int → Option α) (k : Int) (x : Option α) : setI H k x k = x := if_pos rfl
theorem setI_other (H : Int → Option α) (k : Int) (x : Option α) {j : Int} (h : j ≠ k) : setI H k x j = H j := if_neg h
/-- 'm[k] = v' at a number that isn't there. -/
theorem MapI.store (h : MapI enc w b H n) {mt vt : TypeId} (ht : Tryd.prog.underlying mt = some (.map 3 vt)) (k : Int) (hk : I64k k) (hH : H k = none) (hn : n < maxLen) (m : α) :
    ∃ w', (Instr.mapUpdate mt (.map (some b)) (.int .i64 k) (enc m)).run Tryd.prog w = .ok () w' ∧ MapI enc w' b (setI H k (some m)) (n + 1) ∧ w.mapTurned w' b := by
  obtain ⟨D, ho, h1, h2, h3⟩ := h
  obtain ⟨w', hrun, ho', ht'⟩ := ho.store keyI ht hn (keyOfI k hk) (rdE_mk enc m)
  have hT := ho.tidy keyI
  have hs : size (D.put (.int .i64 k) (.held (enc m))) = n + 1 := by rw [size_put hT, h2 k hk hH, h1]; rfl
  refine ⟨w', hrun, ⟨_, ho', hs, fun j hj hn' => ?_, fun j hj x hx z => ?_⟩, ht'⟩
  · by_cases e : j = k
    · subst e; rw [setI_same] at hn'; cases hn'
    · rw [has_put_other (litI_ne e)]; exact h2 j hj ((setI_other H k _ e).symm.trans hn')
  · by_cases e : j = k
    · subst e
      rw [setI_same] at hx
      injection hx with hx
      subst hx
      exact atKey_put_same ho.isMap (isKeyI j hj) _ _
    · rw [atKey_put_other (litI_ne e)]; exact h3 j hj x ((setI_other H k _ e).symm.trans hx) z
theorem MapI.len (h : MapI enc w b H n) {mt vt : TypeId} (ht : Tryd.prog.underlying mt = some (.map 3 vt)) (ty : TypeId) : (Builtin.len_ #[mt] ty #[.map (some b)]).run Tryd.prog w = .ok (.int .i64 n) w := by
  obtain ⟨D, ho, h1, _⟩ := h
  rw [ho.len ht ty, h1]

/-- The map that a loop goes through. -/
structure RngI (enc : α → Value) (w : World) (b r : Nat) (H : Int → Option α) (n : Nat) (left : Lit → Bool) (cnt : Nat) : Prop where
  ex : ∃ D : DataW Value, w.ranges Tryd.prog 3 (rdE enc) b r n D left cnt ∧ size D = n ∧
    (∀ k : Int, I64k k → H k = none → has D (.int .i64 k) = false) ∧ (∀ k : Int, I64k k → ∀ m, H k = some m → ∀ z, D.atKey (.int .i64 k) z = .held (enc m))
variable {r cnt : Nat} {left : Lit → Bool}
theorem RngI.grown {o : Option Nat} (h : RngI enc w b r H n left cnt) (hg : w.grownBy w' o) (h1 : some b ≠ o) (h2 : some r ≠ o) : RngI enc w' b r H n left cnt := by
  obtain ⟨D, hr, h⟩ := h
  exact ⟨D, hr.kept hg h1 h2, h⟩
theorem RngI.below (h : RngI enc w b r H n left cnt) (hb : Below w.heap.size w w') : RngI enc w' b r H n left cnt :=
  h.grown (o := none) ⟨hb.os, hb.tape, hb.output, hb.size, fun k hk _ => hb.block k hk⟩ (by simp) (by simp)
theorem RngI.left_eq (h : RngI enc w b r H n left cnt) : w.rangeLeft b r = cnt := by
  obtain ⟨D, hr, _⟩ := h
  exact hr.left_eq
theorem RngI.lt (h : RngI enc w b r H n left cnt) : b < w.heap.size ∧ r < w.heap.size := by
  obtain ⟨D, hr, _⟩ := h
  exact ⟨hr.owns.lt, hr.lt⟩
theorem RngI.map (h : RngI enc w b r H n left cnt) : MapI enc w b H n := by
  obtain ⟨D, hr, h⟩ := h
  exact ⟨D, hr.owns, h⟩
/-- 'range m'. -/
theorem range_mi {ops : Array Oper} {rest : List Oper} {o : Oper} {a : Act} {Q : Exit → Act → World → Prop} (w : World) (hg : o.guard = none) {mt vt : TypeId} (ht : Tryd.prog.underlying mt = some (.map 3 vt)) (m : Operand) (hop : o.op = Op.range mt m) (hm : a.eval m = .map (some b)) (h : MapI enc w b H n)
    (hK : ∀ w' left, RngI enc w' b w.heap.size H n left n → (∀ k : Int, I64k k → left (.int .i64 k) = (H k).isSome) → Below w.heap.size w w' → w'.heap.size = w.heap.size + 1 → wpList Tryd.prog ops Q rest (a.put o.dst (.pointer (some ⟨w.heap.size, 0, none⟩))) w') : wpList Tryd.prog ops Q (o :: rest) a w := by
  obtain ⟨D, ho, h1, h2, h3⟩ := h
  refine wpList_range_own w hg m mt hop 3 vt keyI ht (rdE enc) b n D hm ho (fun w' r1 r2 r3 => ?_)
  refine hK w' (has D) ⟨D, by rw [h1] at r1; exact r1, h1, h2, h3⟩ (fun k hk => ?_) ⟨r2.os, r2.tape, r2.output, r2.size, fun k hk => r2.block k hk (by simp)⟩ r3
  cases hH : H k with
  | none => exact h2 k hk hH
  | some x => exact has_true_of_atKey (h3 k hk x hH)
/-- The step. -/
theorem next_mi {ops : Array Oper} {rest : List Oper} {o : Oper} {a : Act} {Q : Exit → Act → World → Prop} (w : World) (hg : o.guard = none) (it : Operand) (hop : o.op = Op.next it false) (hit : a.eval it = .pointer (some ⟨r, 0, none⟩)) (h : RngI enc w b r H n left cnt)
    (hDone : (∀ kl, left kl = false) → wpList Tryd.prog ops Q rest (a.put o.dst (.tuple #[.bool false])) w)
    (hMore : ∀ (k : Int) (v : Value) (m : α) (w' : World) (cnt' : Nat), I64k k → H k = some m → v = enc m → left (.int .i64 k) = true → RngI enc w' b r H n (fun z => left z && !z.sameKey (.int .i64 k)) cnt' → cnt' < cnt → w.grownBy w' (some r) →
      (Instr.entry (.pointer (some ⟨r, 0, none⟩))).run Tryd.prog w' = .ok (.tuple #[.int .i64 k, v]) w' →
      wpList Tryd.prog ops Q rest (a.put o.dst (.tuple #[.bool true, .int .i64 k, v])) w') :
    wpList Tryd.prog ops Q (o :: rest) a w := by
  obtain ⟨D, hr, h1, h2, h3⟩ := h
  refine wpList_next_ranges w hg it hop 3 keyI (rdE enc) (fun k : Int => .int .i64 k) (fun m : α => enc m) (fun key kl hk => ?_) (fun v y hv => (rdE_inv hv).1) b r n D left cnt hit hr (fun _ hl => hDone hl) (fun k c kl y w' cnt' hkey hlk hv hat hrg hlt hgr hsz hen => ?_)
  · obtain ⟨x, rfl, _, hw⟩ := Maps.keyOf_int_inv Tryd.underlying3 hk
    exact ⟨x, rfl⟩
  · obtain ⟨x, ex, rfl, hw⟩ := Maps.keyOf_int_inv Tryd.underlying3 hkey
    injection ex with _ ex
    subst ex
    have hk : I64k k := Go.bounds_i64 hw
    have hy := (rdE_inv hv).2
    cases hH : H k with
    | none =>
      have e1 := h2 k hk hH
      rw [has_true_of_atKey hat] at e1
      cases e1
    | some m =>
      have e1 := h3 k hk m hH .nil
      rw [hat, hy] at e1
      injection e1 with e1
      have e2 : enc c = enc m := e1
      simp only [e2] at hen ⊢
      exact hMore k (enc m) m w' cnt' hk hH rfl hlk ⟨D, hrg, h1, h2, h3⟩ hlt hgr hen
end
end Go.Proofs.YtmaiphgmnammgaaDoor
