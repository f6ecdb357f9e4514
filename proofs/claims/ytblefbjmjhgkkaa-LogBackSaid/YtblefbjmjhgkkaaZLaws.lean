/- Laws of the walk of my own: an append within the capacity whose row is known whole behind it; bytes as a string. -/
import Derived.Test.YtblefbjmjhgkkaaZAwake
set_option linter.unusedVariables false
set_option maxRecDepth 100000
set_option linter.unusedSimpArgs false
namespace Go.Proofs.Ytblefbjmjhgkkaa
open Go.RowKit

/-- Nothing is appended out of a nil slice. -/
theorem run_append_none {P : Program} (w : World) (t ty e : TypeId) (i : TypeInfo) (ht : P.underlying t = some (.slice e)) (hi : P.info? e = some i) (a : Addr) (k cap : Nat) (h : k ≤ cap) :
    (Builtin.append_ #[t, t] ty #[.slice (some a) k cap, .slice none 0 0]).run P w = .ok (.slice (some a) k cap) w := by
  simp [Builtin.append_, run_underlying ht, sizeOf, typeInfo, hi, Builtin.lenOf, Builtin.firstCells, h, storeCells]

/-- 'append' within the capacity, onto a row that is known whole: it is known whole behind it. -/
theorem wpList_append_known {P : Program} (w : World) {ops : Array Oper} {rest : List Oper} {o : Oper} {a : Act} {Q : Exit → Act → World → Prop}
    (hgd : o.guard = none) (s x : Operand) (t : TypeId) (hop : o.op = Op.call { callee := Callee.builtin Builtin.append, args := #[s, x], argTypes := #[t, t] })
    (e : TypeId) (i : TypeInfo) (ht : P.underlying t = some (.slice e)) (hi : P.info? e = some i) (hz : i.size = 1)
    (g k cap : Nat) (cur : List Value) (hg : w.heap[g]? = some (.cells cur.toArray e (0, 0))) (hs : a.eval s = .slice (some ⟨g, 0, none⟩) k cap)
    (ao : Option Addr) (m c : Nat) (news : List Value) (hx : a.eval x = .slice ao m c) (hn : news.length = m) (hnone : ao = none → m = 0 ∧ c = 0)
    (hsrc : ∀ ad, ao = some ad → ∀ j u, news[j]? = some u → w.cell? (ad.add j) = some u) (h1 : ∀ u ∈ news, u.oneCell' = true) (hroom : k + m ≤ cap) (hfit : k + m ≤ cur.length)
    (hK : ∀ w', Hid (w'.heap[g]? = some (.cells (splice cur k news).toArray e (0, 0))) → w.grownBy w' (some g) → wpList P ops Q rest (a.put o.dst (.slice (some ⟨g, 0, none⟩) (k + m) cap)) w') :
    wpList P ops Q (o :: rest) a w := by
  subst hn
  refine wpList_plain hgd fun K hK' => ?_
  cases ao with
  | none =>
    obtain ⟨h0, rfl⟩ := hnone rfl
    obtain rfl : news = [] := List.eq_nil_of_length_eq_zero h0
    have hrun := run_append_none (P := P) w t o.type e i ht hi ⟨g, 0, none⟩ k cap (by simpa using hroom)
    unfold Oper.wp
    simp only [List.length_nil] at hx
    simp [execOp, hop, resolve, invoke, builtin, hs, hx, hrun, Result.andThen]
    exact hK' _ _ (by simpa using hK w (show _ = _ by simpa [splice] using hg) (World.grownBy.refl _ _))
  | some ad =>
    have hrun := run_append_room (P := P) w t o.type e i ht hi g k cap cur.toArray hg ad news.length c news (by rw [hz]; omega) (hsrc ad rfl) h1 hroom (by rw [hz]; simpa using hfit)
    rw [hz] at hrun
    unfold Oper.wp
    simp only [execOp, hop, resolve, invoke, builtin, hs, hx]
    simp [hs, hx, hrun, Result.andThen]
    refine hK' _ _ (hK _ ?_ ⟨rfl, rfl, rfl, by simp, fun j _ hj => setRow_other w g j _ (fun e => hj (by simp [e]))⟩)
    show _ = _
    rw [setRow_heap w g _ _ e _ hg]
    simp [splice]

/-- 'string(b)' of any slice that reads as the bytes l. -/
theorem conv_src (w : World) (ao : Option Addr) (l : List UInt8) (c : Nat) (h : Src w ao l) :
    (convert 84 9 (.slice ao l.length c)).run Try.prog w = .ok (.string ⟨l.toArray⟩) w := by
  rcases h with ⟨rfl, rfl⟩ | ⟨ad, rfl, hs⟩
  · rw [run_convert_bytes_string w _ _ 5 none _ c Try.underlying84 Try.underlying5 Try.underlying9]
    simp [Conv.bytesToString, Sem.run_pure, loadCells]
    rfl
  · refine run_convert_bytes_back w 84 9 5 ad c l Try.underlying84 Try.underlying5 Try.underlying9 (fun j hj => ?_)
    exact hs j _ (by rw [cells8, List.getElem?_map, List.getElem?_eq_getElem hj]; rfl)

theorem conv_in (w : World) (ao : Option Addr) (l : List UInt8) (len c : Nat) (hl : l.length = len) (h : Src w ao l) :
    (convert 84 9 (.slice ao len c)).run Try.prog w = .ok (.string ⟨l.toArray⟩) w := by
  subst hl
  exact conv_src w ao l c h

/-- A slice stays what it reads where nothing below is turned. -/
theorem Src.below {w w' : World} {ao : Option Addr} {l : List UInt8} (h : Src w ao l) (hb : Below w.heap.size w w') : Src w' ao l := by
  rcases h with h | ⟨ad, rfl, hs⟩
  · exact .inl h
  · exact .inr ⟨ad, rfl, fun j v hj => cell_later hb (hs j v hj)⟩
/-- A slice over the head of a row. -/
theorem Src.row {w : World} {g : Nat} {cur : List Value} {e : TypeId} {fr : Nat × Nat} (hg : w.heap[g]? = some (.cells cur.toArray e fr)) (l : List UInt8) (h : cur.take l.length = cells8 l) : Src w (some ⟨g, 0, none⟩) l := by
  refine .inr ⟨_, rfl, fun j v hj => ?_⟩
  have hlt : j < l.length := by
    have := (List.getElem?_eq_some_iff.1 hj).1
    simpa [cells8] using this
  rw [show (⟨g, 0, none⟩ : Addr).add j = ⟨g, j, none⟩ by cases j <;> simp [Addr.add], cell_of_row w g j cur.toArray e fr hg]
  rw [← h, List.getElem?_take, if_pos hlt] at hj
  simpa using hj

theorem Src.own {w : World} {base g n cap : Nat} {L : List UInt8} (h : w.ownsRow base 5 1 (.slice (some ⟨g, 0, none⟩) n cap) n (cells8 L)) : Src w (some ⟨g, 0, none⟩) L := by
  have hn : n = L.length := by have := h.1; rw [cells8_length] at this; omega
  refine .inr ⟨_, rfl, fun j v hj => ?_⟩
  have hlt : j < L.length := by
    have := (List.getElem?_eq_some_iff.1 hj).1
    simpa [cells8] using this
  rw [show (⟨g, 0, none⟩ : Addr).add j = ⟨g, j, none⟩ by cases j <;> simp [Addr.add], h.cellAt j (by omega), hj]
theorem Src.drew {w : World} {ao : Option Addr} {l : List UInt8} (h : Src w ao l) : Src w.drew ao l := h

end Go.Proofs.Ytblefbjmjhgkkaa
