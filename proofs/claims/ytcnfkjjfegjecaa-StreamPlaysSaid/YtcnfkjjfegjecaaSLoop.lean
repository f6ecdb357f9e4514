/- Rows of messages that grow in a law's loop: where they lie, what stays. -/
import Derived.Test.YtcnfkjjfegjecaaSOpen
import Derived.Maps.AppendAt
set_option linter.unusedVariables false
set_option linter.unusedSimpArgs false
namespace Go.Proofs.Ytcnfkjjfegjecaa
open Go.RowKit Go.Sort Go.Maps

theorem OutAt.kept {w w' : World} {F : Nat → Prop} {base : Nat} {ao : Option Addr} {cap : Nat} {l : List Mg} (h : OutAt w F base ao cap l) (hb : ∀ k, k < w.heap.size → ¬ F k → w'.heap[k]? = w.heap[k]?)
    (hr : ∀ x, ao = some x → x.block < w.heap.size → w'.heap[x.block]? = w.heap[x.block]?) : OutAt w' F base ao cap l := by
  obtain ⟨L, hO, hl, hE⟩ := h
  refine ⟨L, own_stays hO fun k hk hlt => ?_, hl, fun i x m hx hm => ⟨(hE i x m hx hm).1, (hE i x m hx hm).2.kept hb⟩⟩
  cases ao with
  | none => simp [Value.ownBlock] at hk
  | some a =>
    simp [Value.ownBlock] at hk
    subst hk
    exact hr a rfl hlt
theorem OutAt.below {w w' : World} {F : Nat → Prop} {base : Nat} {ao : Option Addr} {cap : Nat} {l : List Mg} (h : OutAt w F base ao cap l) (hb : Below w.heap.size w w') : OutAt w' F base ao cap l :=
  h.kept (fun k hk _ => hb.block k hk) (fun x _ hk => hb.block _ hk)
theorem OutAt.more {w : World} {F F' : Nat → Prop} {base : Nat} {ao : Option Addr} {cap : Nat} {l : List Mg} (h : OutAt w F base ao cap l) (hF : ∀ k, F' k → F k ∨ w.heap.size ≤ k) : OutAt w F' base ao cap l := by
  obtain ⟨L, hO, hl, hE⟩ := h
  exact ⟨L, hO, hl, fun i x m hx hm => ⟨(hE i x m hx hm).1, (hE i x m hx hm).2.more hF⟩⟩
theorem OutAt.less {w : World} {F F' : Nat → Prop} {base : Nat} {ao : Option Addr} {cap : Nat} {l : List Mg} (h : OutAt w F base ao cap l) (hF : ∀ k, F' k → F k) : OutAt w F' base ao cap l := h.more fun k hk => .inl (hF k hk)
theorem OutAt.nil (w : World) (F : Nat → Prop) (base : Nat) : OutAt w F base none 0 [] := ⟨[], World.ownsRow_nil _ _ _ _, rfl, fun i x m hx => by simp at hx⟩
theorem OutAt.cap {w : World} {F : Nat → Prop} {base : Nat} {ao : Option Addr} {cap : Nat} {l : List Mg} (h : OutAt w F base ao cap l) : ao = none → cap = 0 := by
  obtain ⟨L, hO, _, _⟩ := h
  intro e
  subst e
  rcases own_cases hO with ⟨h1, _⟩ | ⟨g, c, h1, _⟩
  · injection h1
  · injection h1 with h1; cases h1
theorem OutAt.place {w : World} {F : Nat → Prop} {base : Nat} {ao : Option Addr} {cap : Nat} {l : List Mg} (h : OutAt w F base ao cap l) : ∀ x, ao = some x → base ≤ x.block ∧ x.block < w.heap.size := by
  obtain ⟨L, hO, _, _⟩ := h
  intro x e
  subst e
  refine ⟨own_behind hO x.block (by simp [Value.ownBlock]), (hO.lt x.block (by simp [Value.ownBlock])).2⟩
theorem OutAt.lst {w : World} {F : Nat → Prop} {base : Nat} {ao : Option Addr} {cap : Nat} {l : List Mg} (h : OutAt w F base ao cap l) : ∃ L, Lst encG 6 w ao l.length L ∧ L.length = l.length ∧ ∀ (i : Nat) (x m : Mg), L[i]? = some x → l[i]? = some m → Like x m ∧ DpOff w F x := by
  obtain ⟨L, hO, hl, hE⟩ := h
  exact ⟨L, own_lst' encG_length hl hO, hl, hE⟩
theorem OutAt.base_le {w : World} {F : Nat → Prop} {base base' : Nat} {ao : Option Addr} {cap : Nat} {l : List Mg} (h : OutAt w F base ao cap l) (hb : base' ≤ base) : OutAt w F base' ao cap l := by
  obtain ⟨L, hO, r⟩ := h
  exact ⟨L, own_base hO hb, r⟩
theorem SmRep.grown {w w' : World} {F : Nat → Prop} {g b : Nat} {S : Sm Mg} {o : Option Nat} (h : SmRep w F g b S) (hg : w.grownBy w' o) (hF : ∀ k, o = some k → F k ∧ k ≠ g ∧ k ≠ b) : SmRep w' F g b S := by
  obtain ⟨H, hS, hR⟩ := h.ex
  refine ⟨h.fg, h.fb, fun k hk => Nat.lt_of_lt_of_le (h.lim k hk) hg.size, H, hS.grown hg (fun e => (hF g e.symm).2.1 rfl) (fun e => (hF b e.symm).2.2 rfl), hR.kept fun k hk hn => hg.block k hk (fun e => hn (hF k e.symm).1)⟩
/-- The blocks of streams, and where a row lies. -/
def addB (F : Nat → Prop) (ao : Option Addr) : Nat → Prop := fun k => F k ∨ ∃ x, ao = some x ∧ k = x.block
/-- 'append' of a row that is handed out onto one. -/
theorem append_out (w : World) {ops : Array Oper} {rest : List Oper} {o : Oper} {a : Act} {Q : Exit → Act → World → Prop} (hgd : o.guard = none) (s x : Operand)
    (ho : o.op = .call { callee := .builtin .append, args := #[s, x], argTypes := #[22, 22] })
    (F : Nat → Prop) (base : Nat) (ao : Option Addr) (cap : Nat) (A : List Mg) (hs : a.eval s = .slice ao A.length cap) (hA : OutAt w F base ao cap A)
    (base2 : Nat) (ao2 : Option Addr) (cap2 : Nat) (out : List Mg) (hx : a.eval x = .slice ao2 out.length cap2) (hO : OutAt w F base2 ao2 cap2 out)
    (hF : ∀ x, ao = some x → F x.block) (hn : A.length + out.length ≤ 200000) (hbase : base ≤ w.heap.size)
    (h : ∀ ao' cap' w', OutAt w' (addB F ao') base ao' cap' (A ++ out) → w.grownBy w' (Value.slice ao A.length cap).ownBlock → (∀ x, ao' = some x → ao = some x ∨ x.block = w.heap.size) →
      wpList Try.prog ops Q rest (a.put o.dst (.slice ao' (A ++ out).length cap')) w') : wpList Try.prog ops Q (o :: rest) a w := by
  obtain ⟨i0, hi, hz0, hz1, hz2⟩ := info_parts infoMg
  have ht := Try.underlying22
  have hnil := hO.cap
  obtain ⟨LA, hOA, hlA, hEA⟩ := hA
  obtain ⟨LO, hLO, hlO, hEO⟩ := hO.lst
  cases ao2 with
  | none =>
    have hm : out.length = 0 := by
      rcases Nat.eq_zero_or_pos out.length with e | e
      · exact e
      · obtain ⟨b, o', e', _⟩ := hLO.src e; cases e'
    obtain rfl : out = [] := List.eq_nil_of_length_eq_zero hm
    have hc := hnil rfl
    subst hc
    refine wpList_append_own_none hgd s x 22 ho base 37 i0 6 ht hi _ A.length _ hs hOA hx ?_
    have := h ao cap w ⟨LA, by simpa using hOA, by simpa using hlA, fun i x m hx hm => ⟨(hEA i x m hx (by simpa using hm)).1, (hEA i x m hx (by simpa using hm)).2.more fun k hk => by
      rcases hk with hk | ⟨y, e, rfl⟩
      · exact .inl hk
      · exact .inl (hF y e)⟩⟩ (World.grownBy.refl w _) (fun x e => .inl e)
    simpa using this
  | some ad =>
    refine wpList_append_own_at w hgd s x 22 ho base 37 i0 zeroMg 6 72 ht hi hz0 hz1 hz2 rfl (by decide) _ A.length _ hs hOA ad out.length cap2 (flat encG LO) hx (by rw [flat_length encG 6 encG_length, hlO]) (fun j u hu => ?_) flatG_one (by unfold maxLen; omega) (by omega) hbase (fun v' w' h1 h2 h3 h4 => ?_)
    · have hj : j < out.length * 6 := by have := (List.getElem?_eq_some_iff.1 hu).1; rw [flat_length encG 6 encG_length, hlO] at this; exact this
      obtain ⟨b, o', e', R⟩ := hLO.src (by omega)
      cases e'
      rw [add_lit10]
      exact R.flat encG_length j u hu
    · have hlen : A.length + out.length = (A ++ out).length := by simp
      rw [hlen] at h1
      obtain ⟨ao', cap', rfl⟩ := own_form' h1
      have hrow : ∀ k, k < w.heap.size → ¬ F k → w'.heap[k]? = w.heap[k]? := fun k hk hn => h2.block k hk (fun e => by
        cases ao with
        | none => simp [Value.ownBlock] at e
        | some y => simp [Value.ownBlock] at e; exact hn (e ▸ hF y rfl))
      have hloc : ∀ x, ao' = some x → ao = some x ∨ x.block = w.heap.size := by
        intro x e
        subst e
        rcases h4 with h4 | h4
        · left
          cases ao with
          | none => simp [Value.ownBlock] at h4
          | some y =>
            simp [Value.ownBlock] at h4
            rcases own_cases h1 with ⟨e1, _⟩ | ⟨g1, c1, e1, _⟩
            · cases e1
            · rcases own_cases hOA with ⟨e2, _⟩ | ⟨g2, c2, e2, _⟩
              · cases e2
              · injection e1 with e1; injection e1 with e1
                injection e2 with e2; injection e2 with e2
                subst e1 e2
                simp only at h4
                rw [h4]
        · right
          simp [Value.ownBlock] at h4
          exact h4
      refine h ao' cap' w' ⟨LA ++ LO, ?_, by simp [hlA, hlO], fun i x m hx hm => ?_⟩ h2 hloc
      · rw [flat_append]; exact h1
      · have hk : ∀ z, DpOff w F z → DpOff w' (addB F ao') z := fun z hz => by
          have := hz.more (F' := addB F ao') fun k hk => by
            rcases hk with hk | ⟨y, e, rfl⟩
            · exact .inl hk
            · rcases hloc y e with e2 | e2
              · exact .inl (hF y e2)
              · exact .inr (by omega)
          exact this.kept fun k hk hn => hrow k hk (fun e => hn (.inl e))
        by_cases hi' : i < A.length
        · rw [List.getElem?_append_left (by omega)] at hx hm
          exact ⟨(hEA i x m hx hm).1, hk x (hEA i x m hx hm).2⟩
        · rw [List.getElem?_append_right (by omega)] at hx hm
          rw [hlA] at hx
          exact ⟨(hEO _ x m hx hm).1, hk x (hEO _ x m hx hm).2⟩
/-- A block of one message, as a row that is handed out. -/
theorem out_one {w : World} {F : Nat → Prop} {g : Nat} {x m : Mg} (h : MgB w g x) (hl : Like x m) (hd : DpOff w F x) : OutAt w F g (some ⟨g, 0, none⟩) 1 [m] := by
  refine ⟨[x], ⟨by simp [flat, encG], .inr ⟨g, 1, _, rfl, Nat.le_refl _, h, Nat.le_refl _, by unfold maxLen; omega, ?_, ?_⟩⟩, rfl, fun i y z hy hz => ?_⟩
  · simp [encG]
  · simp [encG, flat]
  · cases i with
    | zero => simp at hy hz; subst hy hz; exact ⟨hl, hd⟩
    | succ i => simp at hy
/-- Element i of a row that is handed out: its cells. -/
theorem OutAt.elem {w : World} {F : Nat → Prop} {base : Nat} {ao : Option Addr} {cap : Nat} {l : List Mg} (h : OutAt w F base ao cap l) {i : Nat} {m : Mg} (hm : l[i]? = some m) :
    ∃ k x, ao = some ⟨k, 0, none⟩ ∧ k < w.heap.size ∧ Like x m ∧ DpOff w F x ∧ (∀ c v, (encG x)[c]? = some v → w.cell? ⟨k, i * 6 + c, none⟩ = some v) := by
  obtain ⟨L, hL, hl, hE⟩ := h.lst
  have hi := (List.getElem?_eq_some_iff.1 hm).1
  obtain ⟨b, o, x, e, hx, hb, hc⟩ := hL.atG hi
  obtain ⟨L', hO, _, _⟩ := h
  subst e
  rcases own_cases hO with ⟨e1, _⟩ | ⟨g1, c1, e1, _⟩
  · cases e1
  · injection e1 with e1; injection e1 with e1; injection e1 with e1 e2
    subst e1 e2
    exact ⟨b, x, rfl, hb, (hE i x m hx hm).1, (hE i x m hx hm).2, fun c v hv => by have := hc c v hv; rwa [Nat.zero_add] at this⟩
theorem like_same {x y m : Mg} (h : Like x m) (k : Like y m) : sameG x y = true := by
  obtain ⟨a, dc, rfl⟩ := h
  obtain ⟨a', dc', rfl⟩ := k
  unfold sameG
  simp
theorem SmRep.grow {w w' : World} {F F' : Nat → Prop} {g b : Nat} {S : Sm Mg} {o : Option Nat} (h : SmRep w F g b S) (hg : w.grownBy w' o) (ho : ∀ k, o = some k → F k ∧ k ≠ g ∧ k ≠ b) (hs : ∀ k, F k → F' k) (hF : ∀ k, F' k → F k ∨ w.heap.size ≤ k) (hl : ∀ k, F' k → k < w'.heap.size) : SmRep w' F' g b S := by
  obtain ⟨H, hS, hR⟩ := h.ex
  exact ⟨hs _ h.fg, hs _ h.fb, hl, H, hS.grown hg (fun e => (ho g e.symm).2.1 rfl) (fun e => (ho b e.symm).2.2 rfl), (hR.more hF).kept fun k hk hn => hg.block k hk (fun e => hn (hs k (ho k e.symm).1))⟩
theorem SmRep.less {w : World} {F F' : Nat → Prop} {g b : Nat} {S : Sm Mg} (h : SmRep w F g b S) (hs : ∀ k, F' k → F k) (h1 : F' g) (h2 : F' b) : SmRep w F' g b S := by
  obtain ⟨H, hS, hR⟩ := h.ex
  exact ⟨h1, h2, fun k hk => h.lim k (hs k hk), H, hS, hR.more fun k hk => .inl (hs k hk)⟩
theorem OutAt.grow {w w' : World} {F F' : Nat → Prop} {base : Nat} {ao : Option Addr} {cap : Nat} {l : List Mg} {o : Option Nat} (h : OutAt w F base ao cap l) (hg : w.grownBy w' o) (ho : ∀ k, o = some k → F k ∧ ∀ x, ao = some x → x.block ≠ k) (hs : ∀ k, F k → F' k) (hF : ∀ k, F' k → F k ∨ w.heap.size ≤ k) : OutAt w' F' base ao cap l :=
  (h.more hF).kept (fun k hk hn => hg.block k hk (fun e => hn (hs k (ho k e.symm).1))) (fun x e hk => hg.block _ hk (fun e2 => (ho x.block e2.symm).2 x e rfl))
theorem addB_new {F : Nat → Prop} {w : World} {ao ao' : Option Addr} (hF : ∀ x, ao = some x → F x.block) (hl : ∀ x, ao' = some x → ao = some x ∨ x.block = w.heap.size) : ∀ k, addB F ao' k → F k ∨ w.heap.size ≤ k := by
  intro k hk
  rcases hk with hk | ⟨x, e, rfl⟩
  · exact .inl hk
  · rcases hl x e with e2 | e2
    · exact .inl (hF x e2)
    · exact .inr (by omega)
/-- The blocks of a stream and of two rows. -/
def FF (g b : Nat) (fo ao : Option Addr) : Nat → Prop := addB (addB (Two10 g b) fo) ao
theorem ff_g (g b : Nat) (fo ao : Option Addr) : FF g b fo ao g := .inl (.inl (.inl rfl))
theorem ff_b (g b : Nat) (fo ao : Option Addr) : FF g b fo ao b := .inl (.inl (.inr rfl))
theorem ff_f {g b : Nat} {fo ao : Option Addr} : ∀ x, fo = some x → FF g b fo ao x.block := fun x e => .inl (.inr ⟨x, e, rfl⟩)
theorem ff_a {g b : Nat} {fo ao : Option Addr} : ∀ x, ao = some x → FF g b fo ao x.block := fun x e => .inr ⟨x, e, rfl⟩
theorem ff_sub_f {g b : Nat} {fo ao fo' : Option Addr} : ∀ k, FF g b fo' ao k → addB (FF g b fo ao) fo' k := by
  rintro k ((hk | ⟨x, e, rfl⟩) | ⟨x, e, rfl⟩)
  · exact .inl (.inl (.inl hk))
  · exact .inr ⟨x, e, rfl⟩
  · exact .inl (.inr ⟨x, e, rfl⟩)
theorem ff_sub_a {g b : Nat} {fo ao ao' : Option Addr} : ∀ k, FF g b fo ao' k → addB (FF g b fo ao) ao' k := by
  rintro k ((hk | ⟨x, e, rfl⟩) | ⟨x, e, rfl⟩)
  · exact .inl (.inl (.inl hk))
  · exact .inl (.inl (.inr ⟨x, e, rfl⟩))
  · exact .inr ⟨x, e, rfl⟩
theorem own_of_slice {ao : Option Addr} {n c k : Nat} (h : (Value.slice ao n c).ownBlock = some k) : ∃ x, ao = some x ∧ x.block = k := by
  cases ao with
  | none => simp [Value.ownBlock] at h
  | some x => simp [Value.ownBlock] at h; exact ⟨x, rfl, h⟩
end Go.Proofs.Ytcnfkjjfegjecaa
