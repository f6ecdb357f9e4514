/- fed: what Drain leaves, and the append behind it. -/
import Derived.Test.YtlkmenjalpmipaaZOrdFed
set_option linter.unusedVariables false
set_option maxRecDepth 100000
set_option linter.unusedSimpArgs false
namespace Go.Proofs.Ytlkmenjalpmipaa
open Go.RowKit Go.Sort Go.Shelf

theorem wp_append_at {w : World} {o : Oper} {a : Act} {K : Act → World → Prop} {Q : Exit → Act → World → Prop} (sx x : Operand)
    (ho : o.op = .call { callee := .builtin .append, args := #[sx, x], argTypes := #[29, 29] })
    (base : Nat) (v : Value) (n : Nat) (X : List Mg) (hs : a.eval sx = v) (hown : w.ownsRow base 47 6 v n (flat encG X)) (ta : Option Addr) (tn tc : Nat) (Y : List Mg) (hx : a.eval x = .slice ta tn tc) (hl : Lst encG 6 w ta tn Y) (h0 : ta = none → tn = 0 ∧ tc = 0) (hn : n + tn ≤ 200000) (hbase : base ≤ w.heap.size)
    (hK : ∀ v' w', w'.ownsRow base 47 6 v' (n + tn) (flat encG (X ++ Y)) → w.grownBy w' v.ownBlock → (v'.ownBlock = v.ownBlock ∨ v'.ownBlock = some w.heap.size) → K (a.put o.dst v') w') : o.wp Try.prog a w K Q := by
  obtain ⟨i0, hi, hz0, hz1, hz2⟩ := info_parts infoMg
  have ht := Try.underlying29
  cases ta with
  | none =>
    obtain ⟨rfl, rfl⟩ := h0 rfl
    have hY : Y = [] := List.eq_nil_of_length_eq_zero hl.size
    subst hY
    have hrun := run_append_owned_none (P := Try.prog) (w := w) base 29 o.type 47 i0 6 ht hi v n (flat encG X) hown
    unfold Oper.wp
    simp [execOp, ho, resolve, invoke, builtin, hs, hx, hrun, Result.andThen]
    exact hK v w (by simpa using hown) (World.grownBy.refl w _) (.inl rfl)
  | some ad =>
    obtain ⟨v', w', hr, h2, h3, _, h5⟩ := run_append_own_at (P := Try.prog) w base 29 o.type 47 i0 zeroMg 6 72 ht hi hz0 hz1 hz2 rfl (by decide) v n (flat encG X) hown ad tn tc (flat encG Y) (by rw [flat_length encG 6 encG_length, hl.size]) (fun j u hu => by
      have hj : 0 < tn := by
        have := (List.getElem?_eq_some_iff.1 hu).1
        rw [flat_length encG 6 encG_length, hl.size] at this
        omega
      obtain ⟨b, o', e', R⟩ := hl.src hj
      cases e'
      rw [add_lit10]
      exact R.flat encG_length j u hu) flatG_one (by unfold maxLen; omega) (by omega) hbase
    unfold Oper.wp execOp
    simp only [ho, resolve, invoke, builtin, Sem.run_bind, Sem.run_pure, Result.andThen_ok, List.map_toArray, List.map_cons, List.map_nil, hs, hx, hr]
    exact hK _ _ (by rw [flat_append]; exact h2) h3 h5
section
variable {w wr w' : World} {E : Nat → Prop} {g N : Nat} {O P : Od} {ga ab ob xb : Nat} {aa : Option Addr} {n ac : Nat} {A : List Mg} {at_ : Nat → Nat} {s : Sl} {X : List Mg}
/-- The order has turned, in its own blocks. -/
theorem GvF.turned (h : GvF w wr E g N O ga ab ob xb aa n ac A at_ s X) {M : Nat} (hr : ORep w' E g M P) (hc : Chg E wr w') : GvF w w' E g M P ga ab ob xb aa n ac A at_ s X := by
  have keep : ∀ {j : Nat} {t : TypeId} {cs : Array Value}, Own wr j t cs → ¬ E j → Own w' j t cs := fun ho hn => (hc.block _ ho.lt hn).trans ho
  exact ⟨hr, h.base, h.bel.trans (hc.below h.bel.size h.base), h.la, h.fa, h.fb, h.fo, h.fx, keep h.oa h.fa, keep h.oc h.fb, keep h.oo h.fo, keep h.ox h.fx, h.ne, h.ha, h.hb, h.ho, h.hx, h.row.kept hc fun k hk => .inl hk⟩
/-- Drain answered. -/
theorem GvF.drained {Z : List Mg} {me k : Nat} (h : GvF w wr E g N O ga ab ob xb aa n ac A at_ s X) (hf : Fed1 A Z me at_ k O) (hX : X.map strip = Z.take k) (hA : Hon A) (hZ : IsSrt Mg.key A Z) (m4 : 4 ≤ me) {e : Ending} (hs : DrainSaid wr E g N O e w') :
    ∃ a m c Y P, e = .returned (.slice a m c) ∧ GvF w w' E g N P ga ab ob xb aa n ac A at_ s X ∧ RowO E wr.heap.size w' (.slice a m c) m Y ∧ Fed1 A Z me at_ (k + m) P ∧ (X ++ Y).map strip = Z.take (k + m) ∧ s.n + m ≤ 200000 := by
  obtain ⟨a, m, c, Y, P, rfl, ho, hl, hd, hdr, hr, hc, -⟩ := hs
  obtain ⟨q1, q2⟩ := hf.drains hA hZ m4 hdr
  rw [List.length_map, hl] at q1 q2
  have hC : Chg E wr w' := hc.mono fun i _ e => by rw [e]; exact h.rep.eg
  have hm : (X ++ Y).map strip = Z.take (k + m) := by rw [List.map_append, hX, q1]
  refine ⟨a, m, c, Y, P, rfl, h.turned hr hC, ⟨ho, hl, fun j hj he => ?_, fun y hy => (hd y hy).more fun j _ hj => ⟨hj, fun he => ?_⟩⟩, q2, hm, ?_⟩
  · have h1 := (own_typ ho j hj).1
    have h2 := h.rep.lim j he
    omega
  · have h2 := h.rep.lim j he
    omega
  · have h1 := congrArg List.length hm
    rw [List.length_map, List.length_append, List.length_take, h.row.len, hl, hZ.fil.length] at h1
    have := hA.few
    omega
/-- What Drain answered stands behind out's row. -/
theorem GvF.close (h : GvF w wr E g N O ga ab ob xb aa n ac A at_ s X) {a : Option Addr} {m c B : Nat} {Y : List Mg} (hY : RowO E B wr (.slice a m c) m Y) (hB : w.heap.size ≤ B) {t : Sl} (ho : w'.ownsRow w.heap.size 47 6 t.v (s.n + m) (flat encG (X ++ Y))) (hg : wr.grownBy w' s.v.ownBlock) (hl : t.v.ownBlock = s.v.ownBlock ∨ t.v.ownBlock = some wr.heap.size) (ht : t.n = s.n + m) : GvF w (w'.setCell ⟨xb, 0, none⟩ t.v) E g N O ga ab ob xb aa n ac A at_ t (X ++ Y) := by
  have keep : ∀ {j : Nat} {t : TypeId} {cs : Array Value}, Own wr j t cs → t ≠ 47 → Own w' j t cs := fun k ht => k.grown hg (own_ne h.row.own k ht)
  have oa := keep h.oa (by decide)
  have oc := keep h.oc (by decide)
  have oo := keep h.oo (by decide)
  have ox := keep h.ox (by decide)
  have R9 : RowO E w.heap.size w' t.v (s.n + m) (X ++ Y) := h.row.app hY hB h.rep.lim ho hg hl
  rw [← ht] at R9
  have rep9 : ORep w' E g N O := h.rep.kept hg.size fun j hj => hg.block j (h.rep.lim j hj) (fun e => h.row.ne j e hj)
  have hg2 := grown_set13 w' xb 0 t.v
  have hne : ∀ j, j < w'.heap.size → j ≠ xb → (w'.setCell ⟨xb, 0, none⟩ t.v).heap[j]? = w'.heap[j]? := fun j hj hn => hg2.block j hj (fun e => hn (by cases e; rfl))
  have hs := ox.set 0 t.v
  have bel9 : Below w.heap.size w w' := h.bel.grown hg h.bel.size (fun k e => own_behind h.row.own k e)
  exact ⟨rep9.kept hg2.size fun j hj => hne j (rep9.lim j hj) (fun e => h.fx (e ▸ hj)), h.base, bel9.grown hg2 bel9.size (fun j e => by cases e; exact h.hx), h.la, h.fa, h.fb, h.fo, h.fx, oa.set_other xb 0 _ h.ne, oc.set_other xb 0 _ (oc.ne_ty ox (by decide)), oo.set_other xb 0 _ (oo.ne_ty ox (by decide)), hs, h.ne, h.ha, h.hb, h.ho, h.hx, rowO_cell R9 ox (by decide) (by decide) _⟩
theorem GvF.up (h : GvF w wr E g N O ga ab ob xb aa n ac A at_ s X) {M : Nat} (hm : N ≤ M) : GvF w wr E g M O ga ab ob xb aa n ac A at_ s X :=
  ⟨h.rep.le hm, h.base, h.bel, h.la, h.fa, h.fb, h.fo, h.fx, h.oa, h.oc, h.oo, h.ox, h.ne, h.ha, h.hb, h.ho, h.hx, h.row⟩
end
end Go.Proofs.Ytlkmenjalpmipaa
