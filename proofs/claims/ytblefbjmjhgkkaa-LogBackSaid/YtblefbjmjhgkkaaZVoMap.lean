/- A map by views (its values are counts): what stands in it as a function of the view. -/
import Derived.Test.YtblefbjmjhgkkaaZVoKit
import Derived.Maps.Own
import Derived.Maps.OwnSet
import Derived.Maps.Views
import Derived.WideKeyEntry
import Derived.DeepKeys4
set_option linter.unusedVariables false
set_option maxRecDepth 100000
set_option linter.unusedSimpArgs false
namespace Go.Proofs.Ytblefbjmjhgkkaa
open Go.RowKit Go.Sort Go.Maps

theorem laidV : laidOutB Try.prog = true := by kernel_rfl
theorem rowV : (28 : TypeId) < Try.prog.types.size := of_decide_eq_true (by kernel_rfl)
theorem wideV : (match Try.prog.underlying 28 with | some (.array _ _) | some (.struct _) => true | _ => false) = true := by kernel_rfl
theorem keyLawV : WideMaps.KeyLaw Try.prog 28 := deep_law_laid laidV (m := 3) (by omega) rowV (by kernel_rfl) wideV
theorem keyedV : Keyed Try.prog 28 := Keyed.of_law keyLawV
theorem keyTypeV : Try.prog.keyType 28 = true := by kernel_rfl
theorem cellsV : Try.prog.cellsOf 28 = 4 := by kernel_rfl
theorem formedV (v : Vw) : (valV v).formed Try.prog 28 = true := by
  unfold valV encV
  simp [Value.formed, Try.underlying28, cellsV]
theorem wfU (n : Nat) (h : n < 18446744073709551616) : (Lit.int .u64 (n : Int)).wf = true := by
  have h1 : IntKind.u64.min = 0 := by decide
  have h2 : IntKind.u64.max = 18446744073709551615 := by decide
  simp [Lit.wf, h1, h2]
  omega
theorem wfI (n : Int) (h0 : -9223372036854775808 ≤ n) (h1 : n ≤ 9223372036854775807) : (Lit.int .i64 n).wf = true := by
  have e1 : IntKind.i64.min = -9223372036854775808 := by decide
  have e2 : IntKind.i64.max = 9223372036854775807 := by decide
  simp [Lit.wf, e1, e2]
  omega
theorem lits_conf (k : Nat) (e r : Int) (h1 : (Lit.int .u64 e).wf = true) (h2 : (Lit.int .i64 r).wf = true) : Try.prog.keyLits (k + 2) 26 [.int .u64 e, .int .i64 r] = some [.int .u64 e, .int .i64 r] := by
  have c1 : Try.prog.cellsOf 23 = 1 := by kernel_rfl
  have c2 : Try.prog.cellsOf 3 = 1 := by kernel_rfl
  have c3 : Try.prog.cellsOf 26 = 2 := by kernel_rfl
  unfold Program.keyLits
  simp [Try.underlying26, Value.cells, c1, c2, c3, Program.keyLits, Try.underlying23, Try.underlying3, h1, h2]
theorem lits_view (k : Nat) (n e r m : Int) (h1 : (Lit.int .u64 n).wf = true) (h2 : (Lit.int .u64 e).wf = true) (h3 : (Lit.int .i64 r).wf = true) (h4 : (Lit.int .u64 m).wf = true) :
    Try.prog.keyLits (k + 3) 28 [.int .u64 n, .int .u64 e, .int .i64 r, .int .u64 m] = some [.int .u64 n, .int .u64 e, .int .i64 r, .int .u64 m] := by
  have c1 : Try.prog.cellsOf 23 = 1 := by kernel_rfl
  have c2 : Try.prog.cellsOf 26 = 2 := by kernel_rfl
  have hC := lits_conf k e r h2 h3
  unfold Program.keyLits
  simp [Try.underlying28, Value.cells, c1, c2, cellsV, hC]
  simp [Program.keyLits, Try.underlying23, h1, h4]
theorem keyOfV (v : Vw) (h : v.ok) : ∃ l, keyOf Try.prog 28 (valV v) = some l := by
  have hs : ∃ k, Try.prog.types.size + 1 = k + 3 := ⟨Try.prog.types.size - 2, by have : 2 ≤ Try.prog.types.size := of_decide_eq_true (by kernel_rfl); omega⟩
  obtain ⟨k, hs⟩ := hs
  have hL := lits_view k v.n v.e v.r v.m (wfU _ h.n) (wfU _ h.e) (wfI _ h.r0 h.r1) (wfU _ h.m)
  have hf := formedV v
  have hk := keyTypeV
  unfold keyOf
  simp only [Try.underlying28]
  rw [if_pos (by rw [hk, hf]; rfl), hs]
  unfold valV encV
  simp only [Value.cells]
  rw [hL]
  exact ⟨_, rfl⟩
noncomputable def keyV (v : Vw) : Lit := (keyOf Try.prog 28 (valV v)).getD (.bool false)
theorem keyV_is (v : Vw) (h : v.ok) : keyOf Try.prog 28 (valV v) = some (keyV v) := by
  obtain ⟨l, hl⟩ := keyOfV v h
  unfold keyV
  rw [hl]; rfl
theorem keyV_ne {a b : Vw} (ha : a.ok) (hb : b.ok) (h : a ≠ b) : keyV a ≠ keyV b := by
  intro e
  have h1 := keyV_is a ha
  rw [e] at h1
  have h2 := keyedV.inj h1 (keyV_is b hb)
  unfold valV at h2
  injection h2 with h2
  exact h (encV_inj (by have := congrArg Array.toList h2; simpa using this))
theorem keyV_key (v : Vw) (h : v.ok) : WideAt.IsKeyLit (keyV v) := keyedV.key (keyV_is v h)
/-- Block b is a map, of which at v stands F v. -/
structure MapV (w : World) (b : Nat) (F : Vw → Nat) (n : Nat) : Prop where
  ex : ∃ D : DataW Value, w.ownsMap Try.prog 28 (plainElem Try.prog 3) b n D ∧ ∀ v : Vw, v.ok → D.atKey (keyV v) (.lit (.int .i64 0)) = .lit (.int .i64 (F v : Int))
variable {w w' : World} {b n : Nat} {F : Vw → Nat}
theorem MapV.made (w : World) : MapV (w.alloc (.map #[] 0)) w.heap.size (fun _ => 0) 0 :=
  ⟨_, World.ownsMap_made w _ _ _, fun v _ => rfl⟩
theorem MapV.lt (h : MapV w b F n) : b < w.heap.size := by
  obtain ⟨D, ho, _⟩ := h
  exact ho.lt
theorem MapV.kept (h : MapV w b F n) (hb : w'.heap[b]? = w.heap[b]?) : MapV w' b F n := by
  obtain ⟨D, ⟨es, clock, h1, r1⟩, r⟩ := h
  exact ⟨D, ⟨es, clock, hb.trans h1, r1⟩, r⟩
theorem MapV.below (h : MapV w b F n) (hb : Below w.heap.size w w') : MapV w' b F n := h.kept (hb.block b h.lt)
theorem MapV.grown (h : MapV w b F n) {o : Option Nat} (hg : w.grownBy w' o) (hn : some b ≠ o) : MapV w' b F n := h.kept (hg.block b h.lt hn)
theorem zeroI18 (w : World) : (zeroValue 3).run Try.prog w = .ok (.int .i64 0) w := by kernel_rfl
def setV (F : Vw → Nat) (v : Vw) (x : Nat) : Vw → Nat := fun u => if u = v then x else F u
theorem setV_same (F : Vw → Nat) (v : Vw) (x : Nat) : setV F v x v = x := if_pos rfl
theorem setV_other (F : Vw → Nat) (v : Vw) (x : Nat) {u : Vw} (h : u ≠ v) : setV F v x u = F u := if_neg h
theorem wfN (x : Nat) (h : x ≤ 1000000) : (Lit.int .i64 (x : Int)).wf = true := wfI _ (by omega) (by omega)
open Go.ChangeShapes Go.WideShapes Go.MapKept Go.ChangeMaps Go.WideElems in
theorem entry_mid {H : Type} {P : Program} {w : World} {t k e : TypeId} {R : Value → Option (DataW H × List MemPlace)} {b : Nat} {es : Array MapEntry} {clock : Nat} (K : WideMaps.KeyLaw P k) (ht : P.underlying t = some (.map k e)) {z : Value} (hz : ∀ u : World, (zeroValue e).run P u = .ok z u) (hb : w.heap[b]? = some (.map es clock)) (F : Fit P k R es clock)
    {key : Value} {kl : Lit} (hkey : keyOf P k key = some kl) :
    (∃ (v0 st : Value), (Instr.mapEntry t (.map (some b)) key).run P w = .ok (.tuple #[v0, st]) (setBlock w b (.map es clock)) ∧ (Instr.lookup t (.map (some b)) key false).run P w = .ok v0 w) ∨
    ∃ (st : Value) (w1 : World), (Instr.mapEntry t (.map (some b)) key).run P w = .ok (.tuple #[z, st]) w1 ∧ (Instr.lookup t (.map (some b)) key false).run P w = .ok z w ∧ (Instr.mapUpdate t (.map (some b)) key z).run P w = .ok () w1 := by
  rcases K.find w hkey es.toList F.keys with ⟨h1, h2⟩ | ⟨j, e0, h1, h2, h3⟩
  · refine .inr ⟨goInt clock, setBlock w b (.map (es.push ⟨key, z, clock⟩) (clock + 1)), ?_, ?_, ?_⟩
    · simp [Instr.mapEntry, run_underlying ht, MapKept.run_getObj_map hb, K.check w false hkey, h1, hz, MapKept.run_setObj_map _ hb, Result.andThen, setBlock]
    · simp [Instr.lookup, run_underlying ht, MapKept.run_getObj_map hb, K.check w _ hkey, h1, hz, Result.andThen]
    · simp [Instr.mapUpdate, run_underlying ht, MapKept.run_getObj_map hb, K.check w false hkey, h1, MapKept.run_setObj_map _ hb, Result.andThen, setBlock]
  · have hj : es[j]? = some e0 := by simpa using h2
    have hsame : es.modify j (fun e => { e with key := key }) = es := by
      apply Array.ext'
      rw [Array.toList_modify, modify_eq_set _ _ _ _ h2]
      have : ({ e0 with key := key } : MapEntry) = e0 := by rw [← h3]
      rw [this]
      exact set_self _ _ _ h2
    refine .inl ⟨e0.val, goInt e0.born, ?_, ?_⟩
    · simp [Instr.mapEntry, run_underlying ht, MapKept.run_getObj_map hb, K.check w false hkey, h1, hj, h3, K.stays w hkey, hsame, MapKept.run_setObj_map _ hb, Result.andThen, setBlock]
    · simp [Instr.lookup, run_underlying ht, MapKept.run_getObj_map hb, K.check w _ hkey, h1, Result.andThen]
theorem MapV.more (h : MapV w b F n) : MapV w b F (n + 1) := by
  obtain ⟨D, ⟨es, clock, h1, h2, h3, h4⟩, r⟩ := h
  exact ⟨D, ⟨es, clock, h1, h2, Nat.le_succ_of_le h3, h4⟩, r⟩
theorem MapV.congr {F' : Vw → Nat} (h : MapV w b F n) (e : ∀ v, v.ok → F v = F' v) : MapV w b F' n := by
  obtain ⟨D, ho, r⟩ := h
  exact ⟨D, ho, fun v hv => by rw [r v hv, e v hv]⟩
open Go.ChangeMaps in
section
variable {ops : Array Oper} {rest : List Oper} {o : Oper} {a : Act} {Q : Exit → Act → World → Prop}
end
end Go.Proofs.Ytblefbjmjhgkkaa
