/- fed: what lies in memory beside the order. -/
import Derived.Test.YtlkmenjalpmipaaZOrdStamp
import Derived.Test.YtlkmenjalpmipaaZOrdGive
set_option linter.unusedVariables false
set_option maxRecDepth 100000
set_option linter.unusedSimpArgs false
namespace Go.Proofs.Ytlkmenjalpmipaa
open Go.RowKit Go.Sort Go.Shelf

/-- The captured variables of 'give' (all's block ga, at's block ab, o's block ob, out's block xb), the order, out's row. -/
structure GvF (w wr : World) (E : Nat → Prop) (g N : Nat) (O : Od) (ga ab ob xb : Nat) (aa : Option Addr) (n ac : Nat) (A : List Mg) (at_ : Nat → Nat) (s : Sl) (X : List Mg) : Prop where
  rep : ORep wr E g N O
  base : ∀ j, E j → w.heap.size ≤ j
  bel : Below w.heap.size w wr
  la : Lst encG 6 w aa n A
  fa : ¬ E ga
  fb : ¬ E ab
  fo : ¬ E ob
  fx : ¬ E xb
  oa : Own wr ga 29 #[.slice aa n ac]
  oc : Own wr ab 74 (cells4 .u32 at_).toArray
  oo : Own wr ob 26 #[.pointer (some ⟨g, 0, none⟩)]
  ox : Own wr xb 29 #[s.v]
  ne : ga ≠ xb
  ha : w.heap.size ≤ ga
  hb : w.heap.size ≤ ab
  ho : w.heap.size ≤ ob
  hx : w.heap.size ≤ xb
  row : RowO E w.heap.size wr s.v s.n X
section
variable {w wr w' : World} {E : Nat → Prop} {g N : Nat} {O P : Od} {ga ab ob xb : Nat} {aa : Option Addr} {n ac : Nat} {A : List Mg} {at_ : Nat → Nat} {s : Sl} {X : List Mg}
theorem GvF.later (h : GvF w wr E g N O ga ab ob xb aa n ac A at_ s X) (hb : Below wr.heap.size wr w') : GvF w w' E g N O ga ab ob xb aa n ac A at_ s X :=
  ⟨h.rep.below hb, h.base, h.bel.trans (hb.mono h.bel.size), h.la, h.fa, h.fb, h.fo, h.fx, h.oa.below hb h.oa.lt, h.oc.below hb h.oc.lt, h.oo.below hb h.oo.lt, h.ox.below hb h.ox.lt, h.ne, h.ha, h.hb, h.ho, h.hx, h.row.below hb⟩
/-- The order has turned. -/
theorem GvF.acted (h : GvF w wr E g N O ga ab ob xb aa n ac A at_ s X) {M : Nat} (hr : ORep w' (newF E wr w') g M P) (hc : Chg E wr w') : GvF w w' (newF E wr w') g M P ga ab ob xb aa n ac A at_ s X := by
  have keep : ∀ {j : Nat} {t : TypeId} {cs : Array Value}, Own wr j t cs → ¬ E j → Own w' j t cs := fun ho hn => (hc.block _ ho.lt hn).trans ho
  have off : ∀ {j : Nat} {t : TypeId} {cs : Array Value}, Own wr j t cs → ¬ E j → ¬ newF E wr w' j := fun {j t cs} ho hn e => by
    have hl := ho.lt
    rcases e with e | e
    · exact hn e
    · have := e.1; omega
  refine ⟨hr, fun j hj => ?_, h.bel.trans (hc.below h.bel.size h.base), h.la, off h.oa h.fa, off h.oc h.fb, off h.oo h.fo, off h.ox h.fx, keep h.oa h.fa, keep h.oc h.fb, keep h.oo h.fo, keep h.ox h.fx, h.ne, h.ha, h.hb, h.ho, h.hx, h.row.kept hc fun k hk => hk⟩
  rcases hj with e | e
  · exact h.base j e
  · exact Nat.le_trans h.bel.size e.1
/-- A row stays where a cell of another block turns. -/
theorem rowO_cell {E : Nat → Prop} {B : Nat} {wr : World} {v : Value} {m : Nat} {Z : List Mg} (hz : RowO E B wr v m Z) {j0 k : Nat} {t : TypeId} {cs : Array Value} (ho : Own wr j0 t cs) (ht : t ≠ 47) (ht2 : t ≠ 30) (u : Value) : RowO E B (wr.setCell ⟨j0, k, none⟩ u) v m Z := by
  have hg := grown_set13 wr j0 k u
  have hne : ∀ j, j < wr.heap.size → j ≠ j0 → (wr.setCell ⟨j0, k, none⟩ u).heap[j]? = wr.heap[j]? := fun j hj hn => hg.block j hj (fun e => hn (by cases e; rfl))
  refine ⟨own_kept hz.own fun j hj => hne j (own_ltD hz.own j hj) (fun e => ?_), hz.len, hz.ne, fun x hx => (hz.deps x hx).kept fun ad e => hne _ ((hz.deps x hx).lt ad e) (fun e2 => ?_)⟩
  · obtain ⟨_, cur, hc⟩ := own_typ hz.own j hj
    rw [e] at hc
    have := ho.is.symm.trans hc
    injection this with e
    injection e with _ e _
    exact ht e
  · obtain ⟨cur, hc⟩ := ((hz.deps x hx).typ ad e).2
    rw [e2] at hc
    have := ho.is.symm.trans hc
    injection this with e
    injection e with _ e _
    exact ht2 e
/-- One more of p's messages is counted. -/
theorem GvF.count (h : GvF w wr E g N O ga ab ob xb aa n ac A at_ s X) (p c : Nat) (hp : p < 4) : GvF w (wr.setCell ⟨ab, p, none⟩ (.int .u32 (c : Int))) E g N O ga ab ob xb aa n ac A (updF at_ p c) s X := by
  have hg := grown_set13 wr ab p (.int .u32 (c : Int))
  have hne : ∀ j, j < wr.heap.size → j ≠ ab → (wr.setCell ⟨ab, p, none⟩ (.int .u32 (c : Int))).heap[j]? = wr.heap[j]? := fun j hj hn => hg.block j hj (fun e => hn (by cases e; rfl))
  have hs := h.oc.set p (.int .u32 (c : Int))
  rw [cells4_set _ _ _ _ hp] at hs
  exact ⟨h.rep.kept hg.size fun j hj => hne j (h.rep.lim j hj) (fun e => h.fb (e ▸ hj)), h.base, h.bel.grown hg h.bel.size (fun j e => by cases e; exact h.hb), h.la, h.fa, h.fb, h.fo, h.fx, h.oa.set_other ab p _ (h.oa.ne_ty h.oc (by decide)), hs, h.oo.set_other ab p _ (h.oo.ne_ty h.oc (by decide)), h.ox.set_other ab p _ (h.ox.ne_ty h.oc (by decide)), h.ne, h.ha, h.hb, h.ho, h.hx, rowO_cell h.row h.oc (by decide) (by decide) _⟩
/-- Out's row is laid down. -/
theorem GvF.laid (h : GvF w wr E g N O ga ab ob xb aa n ac A at_ s X) {t : Sl} {Y : List Mg} (hY : RowO E w.heap.size wr t.v t.n Y) : GvF w (wr.setCell ⟨xb, 0, none⟩ t.v) E g N O ga ab ob xb aa n ac A at_ t Y := by
  have hg := grown_set13 wr xb 0 t.v
  have hne : ∀ j, j < wr.heap.size → j ≠ xb → (wr.setCell ⟨xb, 0, none⟩ t.v).heap[j]? = wr.heap[j]? := fun j hj hn => hg.block j hj (fun e => hn (by cases e; rfl))
  have hs := h.ox.set 0 t.v
  exact ⟨h.rep.kept hg.size fun j hj => hne j (h.rep.lim j hj) (fun e => h.fx (e ▸ hj)), h.base, h.bel.grown hg h.bel.size (fun j e => by cases e; exact h.hx), h.la, h.fa, h.fb, h.fo, h.fx, h.oa.set_other xb 0 _ h.ne, h.oc.set_other xb 0 _ (h.oc.ne_ty h.ox (by decide)), h.oo.set_other xb 0 _ (h.oo.ne_ty h.ox (by decide)), hs, h.ne, h.ha, h.hb, h.ho, h.hx, rowO_cell hY h.ox (by decide) (by decide) _⟩
end
end Go.Proofs.Ytlkmenjalpmipaa
