/- Rows of messages of the call's own: append, at the operation and in a drawn region. -/
import Derived.Test.YthgdiihibjnhoaaSOwn
import Derived.Laws.AppendOwnNone
set_option linter.unusedVariables false
set_option linter.unusedSimpArgs false
namespace Go.Proofs.Ythgdiihibjnhoaa
open Go.RowKit Go.Sort Go.Maps

theorem encG_oneC (m : Mg) : ∀ u ∈ encG m, u.oneCell' = true := encG_one m
theorem flatG_one {l : List Mg} : ∀ u ∈ flat encG l, u.oneCell' = true := by
  intro u hu
  unfold flat at hu
  obtain ⟨c, hc, huc⟩ := List.mem_flatten.1 hu
  obtain ⟨m, _, rfl⟩ := List.mem_map.1 hc
  exact encG_one m u huc
def zeroMg : Value := .agg #[.int .i64 0, .int .u32 0, .int .u64 0, .int .i64 0, .slice none 0 0, .string { data := #[] }]
theorem infoMg : (Try.prog.info? 35).map (fun i => (i.zero, i.size, i.bytes)) = some (some zeroMg, 6, 72) := by kernel_rfl
/-- 'append' onto a row of the call's own, whatever slice of messages the source is. -/
theorem wp_append_mg (w : World) {o : Oper} {a : Act} {K : Act → World → Prop} {Q : Exit → Act → World → Prop} (s x : Operand)
    (ho : o.op = .call { callee := .builtin .append, args := #[s, x], argTypes := #[25, 25] })
    (base : Nat) (v : Value) (n : Nat) (xs : List Value) (hs : a.eval s = v) (hown : w.ownsRow base 35 6 v n xs)
    (ao : Option Addr) (m c : Nat) (l : List Mg) (hx : a.eval x = .slice ao m c) (hnil : ao = none → c = 0) (hl : Lst encG 6 w ao m l) (hn : n + m ≤ 200000) (hbase : base ≤ w.heap.size)
    (h : ∀ v' w', w'.ownsRow base 35 6 v' (n + m) (xs ++ flat encG l) → w.grownBy w' v.ownBlock → K (a.put o.dst v') w') : o.wp Try.prog a w K Q := by
  obtain ⟨i0, hi, hz0, hz1, hz2⟩ := info_parts infoMg
  have ht := Try.underlying25
  cases ao with
  | none =>
    have hm : m = 0 := by
      rcases Nat.eq_zero_or_pos m with e | e
      · exact e
      · obtain ⟨b, o', e', _⟩ := hl.src e; cases e'
    subst hm
    have hc := hnil rfl
    subst hc
    have hl0 : l = [] := List.eq_nil_of_length_eq_zero hl.size
    subst hl0
    have hrun := run_append_owned_none (P := Try.prog) (w := w) base 25 o.type 35 i0 6 ht hi v n xs hown
    unfold Oper.wp
    simp [execOp, ho, resolve, invoke, builtin, hs, hx, hrun, Result.andThen]
    exact h v w (by simpa [flat_nil] using hown) (World.grownBy.refl w _)
  | some ad =>
    refine wp_append_own w s x 25 ho base 35 i0 zeroMg 6 72 ht hi hz0 hz1 hz2 rfl (by decide) v n xs hs hown ad m c (flat encG l) hx (by rw [flat_length encG 6 encG_length, hl.size]) (fun j u hu => ?_) flatG_one (by unfold maxLen; omega) (by omega) hbase (fun v' w' h1 h2 _ => h v' w' h1 h2)
    have hj : j < m * 6 := by have := (List.getElem?_eq_some_iff.1 hu).1; rw [flat_length encG 6 encG_length, hl.size] at this; exact this
    obtain ⟨b, o', e', R⟩ := hl.src (by omega)
    cases e'
    rw [add_lit10]
    exact R.flat encG_length j u hu
/-- The same for the walk. -/
theorem append_mg (w : World) {ops : Array Oper} {rest : List Oper} {o : Oper} {a : Act} {Q : Exit → Act → World → Prop} (hgd : o.guard = none) (s x : Operand)
    (ho : o.op = .call { callee := .builtin .append, args := #[s, x], argTypes := #[25, 25] })
    (base : Nat) (v : Value) (n : Nat) (xs : List Value) (hs : a.eval s = v) (hown : w.ownsRow base 35 6 v n xs)
    (ao : Option Addr) (m c : Nat) (l : List Mg) (hx : a.eval x = .slice ao m c) (hnil : ao = none → c = 0) (hl : Lst encG 6 w ao m l) (hn : n + m ≤ 200000) (hbase : base ≤ w.heap.size)
    (h : ∀ v' w', w'.ownsRow base 35 6 v' (n + m) (xs ++ flat encG l) → w.grownBy w' v.ownBlock → wpList Try.prog ops Q rest (a.put o.dst v') w') : wpList Try.prog ops Q (o :: rest) a w :=
  wpList_plain hgd fun K' hK' => wp_append_mg w s x ho base v n xs hs hown ao m c l hx hnil hl hn hbase fun v' w' h1 h2 => hK' _ _ (h v' w' h1 h2)

theorem own_behind {w : World} {base n k : Nat} {t : TypeId} {v : Value} {xs : List Value} (h : w.ownsRow base t k v n xs) : ∀ g, v.ownBlock = some g → base ≤ g := by
  intro g hg
  rcases h.2 with ⟨rfl, _⟩ | ⟨g', c, cur, rfl, hb, _⟩
  · simp [Value.ownBlock] at hg
  · simp [Value.ownBlock] at hg; omega
/-- A row stays where its block does. -/
theorem own_stays {w w' : World} {base n k : Nat} {t : TypeId} {v : Value} {xs : List Value} (h : w.ownsRow base t k v n xs) (hb : ∀ g, v.ownBlock = some g → g < w.heap.size → w'.heap[g]? = w.heap[g]?) : w'.ownsRow base t k v n xs := by
  refine ⟨h.1, ?_⟩
  rcases h.2 with h1 | ⟨g, c, cur, h1, h2, h3, h4⟩
  · exact .inl h1
  · exact .inr ⟨g, c, cur, h1, h2, (hb g (by rw [h1]; rfl) (Array.getElem?_eq_some_iff.1 h3).1).trans h3, h4⟩
theorem own_mv {w w' : World} {base n k g b : Nat} {t : TypeId} {v : Value} {xs : List Value} (h : w.ownsRow base t k v n xs) (m : Mv g b w w') (hg : g < base) (hb : b < base) : w'.ownsRow base t k v n xs :=
  own_stays h fun j hj hl => m.block j hl (by have := own_behind h j hj; omega) (by have := own_behind h j hj; omega)
theorem own_below {w w' : World} {base n k : Nat} {t : TypeId} {v : Value} {xs : List Value} (h : w.ownsRow base t k v n xs) (hb : Below w.heap.size w w') : w'.ownsRow base t k v n xs :=
  own_stays h fun j hj hl => hb.block j hl
theorem own_lt {w : World} {base n nb c : Nat} {t : TypeId} {xs : List Value} {k : Nat} (h : w.ownsRow base t k (.slice (some ⟨nb, 0, none⟩) n c) n xs) : nb < w.heap.size := by
  rcases h.2 with ⟨h1, _⟩ | ⟨g, c, cur, h1, _, h3, _⟩
  · cases h1
  · injection h1 with h1; injection h1 with h1; injection h1 with h1; subst h1; exact (Array.getElem?_eq_some_iff.1 h3).1
/-- A block of one message, as a slice of one. -/
theorem lst_one {w : World} {g : Nat} {m : Mg} (h : MgB w g m) : Lst encG 6 w (some ⟨g, 0, none⟩) 1 [m] := by
  refine ⟨rfl, fun _ => ⟨g, 0, rfl, fun i x hx c v hv => ?_⟩⟩
  have hi : i < 1 := (List.getElem?_eq_some_iff.1 hx).1
  obtain rfl : i = 0 := by omega
  cases hx
  rw [show 0 + 0 * 6 + c = c by omega]
  exact Own.at_ h c v (by rw [List.getElem?_toArray]; exact hv)
/-- Take an operation first; its slot by its number. -/
theorem stake {P : Program} {md : Region.Mode} {ops : Array Oper} {Q : Exit → Act → World → Prop} {S : World → Prop} {i : Nat} {oi : Oper} {v : Value} {fuel : Nat} {listed : Array Bool} {a : Act} {w : World} (d : Nat) (hi : ops[i]? = some oi) (hd : oi.dst = some d)
    (hs : Region.noSelect ops = true) (hf : Region.free md ops listed i = true) (hr : (Region.ready md ops listed).contains i = true)
    (hQ : ∀ c a w, Q (.panic c) (a.put oi.dst v) w → Q (.panic c) a w) (hy : YieldsIf P ops S oi v a) (hS : S w)
    (h : wpAnyH P md ops Q S fuel (listed.setIfInBounds i true) (a.put (some d) v) w) : wpAnyH P md ops Q S (fuel + 1) listed a w :=
  wpAnyH_take hi hs hf hr hQ hy hS (by rw [hd]; exact h)
theorem MapAt.pos {w : World} {b n : Nat} {H : Nat → Option Mg} (h : MapAt w b H n) (k : Nat) (hk : k < 4294967296) {m : Mg} (hH : H k = some m) : 0 < n := by
  obtain ⟨D, ho, h1, h2, h3⟩ := h
  rcases Nat.eq_zero_or_pos n with e | e
  · exfalso
    obtain ⟨es, rfl⟩ := ho.isMap
    have hes : es = [] := List.eq_nil_of_length_eq_zero (by rw [← e, ← h1]; rfl)
    have := h3 k hk m hH .nil
    rw [hes] at this
    cases this
  · exact e
/-- Without what goes on behind c, k of them. -/
def cutF (H : Nat → Option Mg) (c k : Nat) : Nat → Option Mg := fun j => if c < j ∧ j ≤ c + k then none else H j
theorem cutF_zero (H : Nat → Option Mg) (c : Nat) : cutF H c 0 = H := by
  funext j
  unfold cutF
  rw [if_neg (by omega)]
theorem cutF_next (H : Nat → Option Mg) (c k : Nat) : setF (cutF H c k) (c + k + 1) none = cutF H c (k + 1) := by
  funext j
  unfold setF cutF
  by_cases e : j = c + k + 1
  · rw [if_pos e, if_pos (by omega)]
  · rw [if_neg e]
    by_cases e2 : c < j ∧ j ≤ c + k
    · rw [if_pos e2, if_pos (by omega)]
    · rw [if_neg e2, if_neg (by omega)]
theorem cutF_at (H : Nat → Option Mg) (c k : Nat) : cutF H c k (c + k + 1) = H (c + k + 1) := by
  unfold cutF
  rw [if_neg (by omega)]
def lenOf : Value → Nat
  | .slice _ n _ => n
  | _ => 0
end Go.Proofs.Ythgdiihibjnhoaa
