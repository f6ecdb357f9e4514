/- A map by views (its values are counts): what stands in it as a function of the view. -/
import Derived.Test.YtlaenabckpjikaaVoKit
import Derived.Maps.Own
import Derived.Maps.OwnSet
import Derived.Maps.Views
import Derived.WideKeyEntry
import Derived.DeepKeys4
set_option linter.unusedVariables false
set_option linter.unusedSimpArgs false
namespace Go.Proofs.Ytlaenabckpjikaa
open Go.RowKit Go.Sort Go.Maps

theorem laidV : laidOutB Try.prog = true := by kernel_rfl
theorem rowV : (31 : TypeId) < Try.prog.types.size := of_decide_eq_true (by kernel_rfl)
theorem wideV : (match Try.prog.underlying 31 with | some (.array _ _) | some (.struct _) => true | _ => false) = true := by kernel_rfl
theorem keyLawV : WideMaps.KeyLaw Try.prog 31 := deep_law_laid laidV (m := 3) (by omega) rowV (by kernel_rfl) wideV
theorem keyedV : Keyed Try.prog 31 := Keyed.of_law keyLawV
theorem keyTypeV : Try.prog.keyType 31 = true := by kernel_rfl
theorem cellsV : Try.prog.cellsOf 31 = 4 := by kernel_rfl
theorem formedV (v : Vw) : (valV v).formed Try.prog 31 = true := by
  unfold valV encV
  simp [Value.formed, Try.underlying31, cellsV]
theorem wfU (n : Nat) (h : n < 18446744073709551616) : (Lit.int .u64 (n : Int)).wf = true := by
  have h1 : IntKind.u64.min = 0 := by decide
  have h2 : IntKind.u64.max = 18446744073709551615 := by decide
  simp [Lit.wf, h1, h2]
  omega
theorem wfI (n : Int) (h0 : -9223372036854775808 ≤ n) (h1 : n ≤ 9223372036854775807) : (Lit.int .i64 n).wf = true := by
  have e1 : IntKind.i64.min = -9223372036854775808 := by decide
  have e2 : IntKind.i64.max = 9223372036854775807 := by decide
  simp [Lit.wf, e1, e2]
  omega
theorem lits_conf (k : Nat) (e r : Int) (h1 : (Lit.int .u64 e).wf = true) (h2 : (Lit.int .i64 r).wf = true) : Try.prog.keyLits (k + 2) 29 [.int .u64 e, .int .i64 r] = some [.int .u64 e, .int .i64 r] := by
  have c1 : Try.prog.cellsOf 23 = 1 := by kernel_rfl
  have c2 : Try.prog.cellsOf 3 = 1 := by kernel_rfl
  have c3 : Try.prog.cellsOf 29 = 2 := by kernel_rfl
  unfold Program.keyLits
  simp [Try.underlying29, Value.cells, c1, c2, c3, Program.keyLits, Try.underlying23, Try.underlying3, h1, h2]
theorem lits_view (k : Nat) (n e r m : Int) (h1 : (Lit.int .u64 n).wf = true) (h2 : (Lit.int .u64 e).wf = true) (h3 : (Lit.int .i64 r).wf = true) (h4 : (Lit.int .u64 m).wf = true) :
    Try.prog.keyLits (k + 3) 31 [.int .u64 n, .int .u64 e, .int .i64 r, .int .u64 m] = some [.int .u64 n, .int .u64 e, .int .i64 r, .int .u64 m] := by
  have c1 : Try.prog.cellsOf 23 = 1 := by kernel_rfl
  have c2 : Try.prog.cellsOf 29 = 2 := by kernel_rfl
  have hC := lits_conf k e r h2 h3
  unfold Program.keyLits
  simp [Try.underlying31, Value.cells, c1, c2, cellsV, hC]
  simp [Program.keyLits, Try.underlying23, h1, h4]
theorem keyOfV (v : Vw) (h : v.ok) : ∃ l, keyOf Try.prog 31 (valV v) = some l := by
  have hs : ∃ k, Try.prog.types.size + 1 = k + 3 := ⟨Try.prog.types.size - 2, by have : 2 ≤ Try.prog.types.size := of_decide_eq_true (by kernel_rfl); omega⟩
  obtain ⟨k, hs⟩ := hs
  have hL := lits_view k v.n v.e v.r v.m (wfU _ h.n) (wfU _ h.e) (wfI _ h.r0 h.r1) (wfU _ h.m)
  have hf := formedV v
  have hk := keyTypeV
  unfold keyOf
  simp only [Try.underlying31]
  rw [if_pos (by rw [hk, hf]; rfl), hs]
  unfold valV encV
  simp only [Value.cells]
  rw [hL]
  exact ⟨_, rfl⟩
noncomputable def keyV (v : Vw) : Lit := (keyOf Try.prog 31 (valV v)).getD (.bool false)
theorem keyV_is (v : Vw) (h : v.ok) : keyOf Try.prog 31 (valV v) = some (keyV v) := by
  obtain ⟨l, hl⟩ := keyOfV v h
  unfold keyV
  rw [hl]; rfl
theorem keyV_ne {a b : Vw} (ha : a.ok) (hb : b.ok) (h : a ≠ b) : keyV a ≠ keyV b := by
  intro e
  have h1 := keyV_is a ha
  rw [e] at h1
  have h2 := keyedV.inj h1 (keyV_is b hb)
  unfold valV at h2
  injection h2 with h2
  exact h (encV_inj (by have := congrArg Array.toList h2; simpa using this))
theorem keyV_key (v : Vw) (h : v.ok) : WideAt.IsKeyLit (keyV v) := keyedV.key (keyV_is v h)
/-- Block b is a map, of which at v stands F v. -/
structure MapV (w : World) (b : Nat) (F : Vw → Nat) (n : Nat) : Prop where
  ex : ∃ D : DataW Value, w.ownsMap Try.prog 31 (plainElem Try.prog 3) b n D ∧ ∀ v : Vw, v.ok → D.atKey (keyV v) (.lit (.int .i64 0)) = .lit (.int .i64 (F v : Int))
variable {w w' : World} {b n : Nat} {F : Vw → Nat}
theorem MapV.made (w : World) : MapV (w.alloc (.map #[] 0)) w.heap.size (fun _ => 0) 0 :=
  ⟨_, World.ownsMap_made w _ _ _, fun v _ => rfl⟩
theorem MapV.lt (h : MapV w b F n) : b < w.heap.size := by
  obtain ⟨D, ho, _⟩ := h
  exact ho.lt
theorem MapV.kept (h : MapV w b F n) (hb : w'.heap[b]? = w.heap[b]?) : MapV w' b F n := by
  obtain ⟨D, ⟨es, clock, h1, r1⟩, r⟩ := h
  exact ⟨D, ⟨es, clock, hb.trans h1, r1⟩, r⟩
theorem MapV.below (h : MapV w b F n) (hb : Below w.heap.size w w') : MapV w' b F n := h.kept (hb.block b h.lt)
theorem MapV.grown (h : MapV w b F n) {o : Option Nat} (hg : w.grownBy w' o) (hn : some b ≠ o) : MapV w' b F n := h.kept (hg.block b h.lt hn)
theorem zeroI18 (w : World) : (zeroValue 3).run Try.prog w = .ok (.int .i64 0) w := by kernel_rfl
/-- 'm[k]'. -/
theorem MapV.look (h : MapV w b F n) (v : Vw) (hv : v.ok) : (Instr.lookup 62 (.map (some b)) (valV v) false).run Try.prog w = .ok (.int .i64 (F v : Int)) w := by
  obtain ⟨D, ho, h2⟩ := h
  obtain ⟨c, hrun, hat, hwc⟩ := ho.lookup_int keyedV Try.underlying62 Try.underlying3 (zeroI18 w) (keyV_is v hv)
  rw [h2 v hv] at hat
  injection hat with hat
  injection hat with _ hat
  rw [hrun, hat]
def setV (F : Vw → Nat) (v : Vw) (x : Nat) : Vw → Nat := fun u => if u = v then x else F u
theorem setV_same (F : Vw → Nat) (v : Vw) (x : Nat) : setV F v x v = x := if_pos rfl
theorem setV_other (F : Vw → Nat) (v : Vw) (x : Nat) {u : Vw} (h : u ≠ v) : setV F v x u = F u := if_neg h
theorem wfN (x : Nat) (h : x ≤ 1000000) : (Lit.int .i64 (x : Int)).wf = true := wfI _ (by omega) (by omega)
/-- 'm[k] = x'. -/
theorem MapV.store (h : MapV w b F n) (v : Vw) (hv : v.ok) (x : Nat) (hx : x ≤ 1000000) (hn : n < maxLen) :
    ∃ w', (Instr.mapUpdate 62 (.map (some b)) (valV v) (.int .i64 (x : Int))).run Try.prog w = .ok () w' ∧ MapV w' b (setV F v x) (n + 1) ∧ w.grownBy w' (some b) := by
  obtain ⟨D, ho, h2⟩ := h
  obtain ⟨w', hrun, ho', hg⟩ := ho.update keyedV Try.underlying62 hn (keyV_is v hv) (d := .lit (.int .i64 (x : Int))) (ps := []) (val := .int .i64 (x : Int)) (plainElem_int Try.underlying3 (wfN x hx))
  refine ⟨w', hrun, ⟨_, ho', fun u hu => ?_⟩, hg⟩
  by_cases e : u = v
  · subst e
    rw [setV_same]
    exact atKey_put_same ho.isMap (keyV_key u hu) _ _
  · rw [setV_other F v x e, atKey_put_other (keyV_ne hu hv e)]
    exact h2 u hu
open Go.ChangeShapes Go.WideShapes Go.MapKept Go.ChangeMaps Go.WideElems in
theorem entry_mid {H : Type} {P : Program} {w : World} {t k e : TypeId} {R : Value → Option (DataW H × List MemPlace)} {b : Nat} {es : Array MapEntry} {clock : Nat} (K : WideMaps.KeyLaw P k) (ht : P.underlying t = some (.map k e)) {z : Value} (hz : ∀ u : World, (zeroValue e).run P u = .ok z u) (hb : w.heap[b]? = some (.map es clock)) (F : Fit P k R es clock)
    {key : Value} {kl : Lit} (hkey : keyOf P k key = some kl) :
    (∃ (v0 st : Value), (Instr.mapEntry t (.map (some b)) key).run P w = .ok (.tuple #[v0, st]) (setBlock w b (.map es clock)) ∧ (Instr.lookup t (.map (some b)) key false).run P w = .ok v0 w) ∨
    ∃ (st : Value) (w1 : World), (Instr.mapEntry t (.map (some b)) key).run P w = .ok (.tuple #[z, st]) w1 ∧ (Instr.lookup t (.map (some b)) key false).run P w = .ok z w ∧ (Instr.mapUpdate t (.map (some b)) key z).run P w = .ok () w1 := by
  rcases K.find w hkey es.toList F.keys with ⟨h1, h2⟩ | ⟨j, e0, h1, h2, h3⟩
  · refine .inr ⟨goInt clock, setBlock w b (.map (es.push ⟨key, z, clock⟩) (clock + 1)), ?_, ?_, ?_⟩
    · simp [Instr.mapEntry, run_underlying ht, MapKept.run_getObj_map hb, K.check w false hkey, h1, hz, MapKept.run_setObj_map _ hb, Result.andThen, setBlock]
    · simp [Instr.lookup, run_underlying ht, MapKept.run_getObj_map hb, K.check w _ hkey, h1, hz, Result.andThen]
    · simp [Instr.mapUpdate, run_underlying ht, MapKept.run_getObj_map hb, K.check w false hkey, h1, MapKept.run_setObj_map _ hb, Result.andThen, setBlock]
  · have hj : es[j]? = some e0 := by simpa using h2
    have hsame : es.modify j (fun e => { e with key := key }) = es := by
      apply Array.ext'
      rw [Array.toList_modify, modify_eq_set _ _ _ _ h2]
      have : ({ e0 with key := key } : MapEntry) = e0 := by rw [← h3]
      rw [this]
      exact set_self _ _ _ h2
    refine .inl ⟨e0.val, goInt e0.born, ?_, ?_⟩
    · simp [Instr.mapEntry, run_underlying ht, MapKept.run_getObj_map hb, K.check w false hkey, h1, hj, h3, K.stays w hkey, hsame, MapKept.run_setObj_map _ hb, Result.andThen, setBlock]
    · simp [Instr.lookup, run_underlying ht, MapKept.run_getObj_map hb, K.check w _ hkey, h1, Result.andThen]
theorem MapV.more (h : MapV w b F n) : MapV w b F (n + 1) := by
  obtain ⟨D, ⟨es, clock, h1, h2, h3, h4⟩, r⟩ := h
  exact ⟨D, ⟨es, clock, h1, h2, Nat.le_succ_of_le h3, h4⟩, r⟩
theorem MapV.congr {F' : Vw → Nat} (h : MapV w b F n) (e : ∀ v, v.ok → F v = F' v) : MapV w b F' n := by
  obtain ⟨D, ho, r⟩ := h
  exact ⟨D, ho, fun v hv => by rw [r v hv, e v hv]⟩
open Go.ChangeMaps in
/-- 'm[k]++' in its two steps: the entry that is there or made, and the store into it. -/
theorem MapV.entry (h : MapV w b F n) (v : Vw) (hv : v.ok) (hn : n < maxLen) :
    ∃ (st : Int) (w1 : World), (Instr.mapEntry 62 (.map (some b)) (valV v)).run Try.prog w = .ok (.tuple #[.int .i64 (F v : Int), .int .i64 st]) w1 ∧ MapV w1 b F (n + 1) ∧ w.grownBy w1 (some b) ∧ w1.heap.size = w.heap.size ∧
      ∀ (w2 : World) (x : Nat), x ≤ 1000000 → w2.heap[b]? = w1.heap[b]? → ∃ w3, (Instr.entryStore 62 (.map (some b)) (.int .i64 st) (.int .i64 (x : Int))).run Try.prog w2 = .ok () w3 ∧ MapV w3 b (setV F v x) (n + 1) ∧ w2.grownBy w3 (some b) ∧ w3.heap.size = w2.heap.size := by
  have hlook := h.look v hv
  have hst := fun x hx => h.store v hv x hx hn
  have hmore := h.more
  obtain ⟨D, ⟨es, clock, hb, hF, hs, rfl⟩, r⟩ := id h
  obtain ⟨v0, st, es1, clock1, hE, hor, hS⟩ := WideElems.entry_then_store keyLawV Try.underlying62 zeroI18 hb hF (keyV_is v hv)
  have hgr : ∀ (w2 : World) (es2 : Array MapEntry) (c2 : Nat) (es' : Array MapEntry) (c' : Nat), w2.heap[b]? = some (.map es2 c2) → w2.grownBy (setBlock w2 b (.map es' c')) (some b) := fun w2 es2 c2 es' c' h2 => ⟨rfl, rfl, rfl, by simp [setBlock], fun i _ hi => heap_setBlock_other h2 _ (fun e => hi (by rw [e]))⟩
  have fin : (∀ (w2 : World) (x : Nat), x ≤ 1000000 → w2.heap[b]? = (setBlock w b (.map es1 clock1)).heap[b]? → ∃ w3, (Instr.entryStore 62 (.map (some b)) (goInt st) (.int .i64 (x : Int))).run Try.prog w2 = .ok () w3 ∧ MapV w3 b (setV F v x) (n + 1) ∧ w2.grownBy w3 (some b) ∧ w3.heap.size = w2.heap.size) := by
    intro w2 x hx h2
    rw [heap_setBlock_same hb] at h2
    obtain ⟨es', clock', hrun, hup⟩ := hS w2 (.int .i64 (x : Int)) h2
    obtain ⟨w', hrun', hM, hG⟩ := hst x hx
    rw [hup] at hrun'
    injection hrun' with _ e
    subst e
    exact ⟨_, hrun, hM.kept (by rw [heap_setBlock_same hb, heap_setBlock_same h2]), hgr _ _ _ _ _ h2, by simp [setBlock]⟩
  rcases entry_mid keyLawV Try.underlying62 zeroI18 hb hF (keyV_is v hv) with ⟨v1, st1, he, hl⟩ | ⟨st1, w1, he, hl, hu⟩
  · rw [hlook] at hl
    injection hl with hl
    subst hl
    rw [hE] at he
    injection he with e1 e2
    injection e1 with e1
    have e1 := congrArg Array.toList e1
    simp only [List.cons.injEq, and_true] at e1
    obtain ⟨rfl, _⟩ := e1
    refine ⟨st, _, hE, ?_, hgr _ _ _ _ _ hb, by simp [setBlock], fin⟩
    rw [e2]
    exact hmore.kept (by rw [heap_setBlock_same hb, hb])
  · rw [hlook] at hl
    injection hl with hl
    rw [hE] at he
    injection he with e1 e2
    injection e1 with e1
    have e1 := congrArg Array.toList e1
    simp only [List.cons.injEq, and_true] at e1
    obtain ⟨rfl, _⟩ := e1
    have hz : F v = 0 := by injection hl with _ hl; omega
    obtain ⟨w', hrun', hM, hG⟩ := hst 0 (by omega)
    rw [show (Value.int .i64 ((0 : Nat) : Int)) = .int .i64 0 from rfl, hu] at hrun'
    injection hrun' with _ e
    subst e
    rw [hz]
    refine ⟨st, _, hE, ?_, hgr _ _ _ _ _ hb, by simp [setBlock], fin⟩
    rw [e2]
    refine hM.congr fun u hu => ?_
    by_cases e : u = v
    · subst e; rw [setV_same, hz]
    · rw [setV_other F v 0 e]
section
variable {ops : Array Oper} {rest : List Oper} {o : Oper} {a : Act} {Q : Exit → Act → World → Prop}
/-- The three for the walk. -/
theorem walk_look (h : MapV w b F n) (hg : o.guard = none) (m x : Operand) (hop : o.op = Op.lookup 62 m x false) (v : Vw) (hv : v.ok) (hm : a.eval m = .map (some b)) (hx : a.eval x = valV v)
    (hK : wpList Try.prog ops Q rest (a.put o.dst (.int .i64 (F v : Int))) w) : wpList Try.prog ops Q (o :: rest) a w := by
  refine wpList_plain hg fun K' hK' => ?_
  unfold Oper.wp
  simp [execOp, hop, hm, hx, h.look v hv, Result.andThen]
  exact hK' _ _ hK
theorem walk_entry (h : MapV w b F n) (hg : o.guard = none) (m x : Operand) (hop : o.op = Op.mapEntry 62 m x) (v : Vw) (hv : v.ok) (hn : n < maxLen) (hm : a.eval m = .map (some b)) (hx : a.eval x = valV v)
    (hK : ∀ (st : Int) (w1 : World), MapV w1 b F (n + 1) → w.grownBy w1 (some b) → w1.heap.size = w.heap.size →
      (∀ (w2 : World) (x : Nat), x ≤ 1000000 → w2.heap[b]? = w1.heap[b]? → ∃ w3, (Instr.entryStore 62 (.map (some b)) (.int .i64 st) (.int .i64 (x : Int))).run Try.prog w2 = .ok () w3 ∧ MapV w3 b (setV F v x) (n + 1) ∧ w2.grownBy w3 (some b) ∧ w3.heap.size = w2.heap.size) →
      wpList Try.prog ops Q rest (a.put o.dst (.tuple #[.int .i64 (F v : Int), .int .i64 st])) w1) : wpList Try.prog ops Q (o :: rest) a w := by
  refine wpList_plain hg fun K' hK' => ?_
  obtain ⟨st, w1, hrun, h1, h2, h3, h4⟩ := h.entry v hv hn
  unfold Oper.wp
  simp [execOp, hop, hm, hx, hrun, Result.andThen]
  exact hK' _ _ (hK st w1 h1 h2 h3 h4)
end
end Go.Proofs.Ytlaenabckpjikaa
