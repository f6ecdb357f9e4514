/- The sorted row of honest senders' messages: plain facts. -/
import Derived.Test.YtlkmenjalpmipaaZOrdGive
set_option linter.unusedVariables false
set_option maxRecDepth 100000
set_option linter.unusedSimpArgs false
namespace Go.Proofs.Ytlkmenjalpmipaa
open Go.RowKit Go.Sort Go.Shelf

section
variable {A Z : List Mg} {i : Nat} {x y : Mg} {p : Nat}
theorem srt_pos (hA : Hon A) (hZ : IsSrt Mg.key A Z) (hp : p < 4) (hx : Z[i]? = some x) (hf : x.f = (p : Int)) : (sub A p)[(sub (Z.take i) p).length]? = some x := by
  rw [← srt_sub hA hZ p hp, sub_split Z i p, List.getElem?_append_right (Nat.le_refl _), Nat.sub_self]
  obtain ⟨q1, q2⟩ := List.getElem?_eq_some_iff.1 hx
  rw [List.drop_eq_getElem_cons q1, q2]
  unfold sub
  rw [List.filter_cons_of_pos (by simp [hf])]
  rfl
/-- Its number is the next one of its sender's. -/
theorem srt_num (hA : Hon A) (hZ : IsSrt Mg.key A Z) (hp : p < 4) (hx : Z[i]? = some x) (hf : x.f = (p : Int)) : x.q = ((sub (Z.take i) p).length : Int) + 1 :=
  hA.num p hp _ x (srt_pos hA hZ hp hx hf)
theorem srt_frm (hA : Hon A) (hZ : IsSrt Mg.key A Z) (hx : Z[i]? = some x) : ∃ p : Nat, p < 4 ∧ x.f = (p : Int) := hA.frm x ((hZ.fil.mem x).1 (List.mem_of_getElem? hx))
/-- Keys rise. -/
theorem srt_step (hA : Hon A) (hZ : IsSrt Mg.key A Z) (hx : Z[i]? = some x) (hy : Z[i + 1]? = some y) : x.key.less y.key = true := by
  obtain ⟨hx1, hx2⟩ := List.getElem?_eq_some_iff.1 hx
  obtain ⟨hy1, hy2⟩ := List.getElem?_eq_some_iff.1 hy
  have h1 : y.key.less x.key = false := by
    have := List.pairwise_iff_getElem.1 hZ.srt i (i + 1) hx1 hy1 (Nat.lt_succ_self i)
    rw [hx2, hy2] at this
    exact this
  rw [K.less_not] at h1
  rw [K.less_iff]
  obtain ⟨p, hp, hxf⟩ := srt_frm hA hZ hx
  by_cases hf : y.f = (p : Int)
  · have e1 := srt_pos hA hZ hp hx hxf
    have e2 := srt_pos hA hZ hp hy hf
    rw [sub_next Z i p x hx, if_pos hxf, List.length_append] at e2
    obtain ⟨a1, a2⟩ := List.getElem?_eq_some_iff.1 e1
    obtain ⟨b1, b2⟩ := List.getElem?_eq_some_iff.1 e2
    have := List.pairwise_iff_getElem.1 (hA.ris p hp) _ _ a1 b1 (by simp)
    rw [a2, b2] at this
    exact .inl this
  · have h2 : x.key.p = x.f := rfl
    have h3 : y.key.p = y.f := rfl
    rcases h1 with h1 | ⟨h1, h4⟩
    · exact .inl h1
    · refine .inr ⟨h1.symm, ?_⟩
      rw [h2, h3] at h4 ⊢
      omega
theorem cnt_next (hx : Z[i]? = some x) (hf : x.f = (p : Int)) : (fun q => (sub (Z.take (i + 1)) q).length) = updF (fun q => (sub (Z.take i) q).length) p ((sub (Z.take i) p).length + 1) := by
  funext q
  rw [sub_next Z i q x hx, List.length_append]
  by_cases e : q = p
  · subst e; rw [updF_same, if_pos hf]; rfl
  · rw [updF_other _ _ _ _ e, if_neg (by omega)]; rfl
/-- A row that is Z but for where its Deps lie. -/
theorem row_at {X : List Mg} (h : X.map strip = Z) (hx : X[i]? = some x) : Z[i]? = some (strip x) := by rw [← h, List.getElem?_map, hx]; rfl
end
theorem lst_at {α : Type} {enc : α → List Value} {k : Nat} {w : World} {ao : Option Addr} {len : Nat} {l : List α} (h : Lst enc k w ao len l) {i : Nat} (hi : i < len) :
    ∃ b o x, ao = some ⟨b, o, none⟩ ∧ l[i]? = some x ∧ ∀ c v, (enc x)[c]? = some v → w.cell? ⟨b, o + i * k + c, none⟩ = some v := by
  obtain ⟨b, o, e, hr⟩ := h.src (show 0 < len by omega)
  have hx : i < l.length := by rw [h.size]; exact hi
  exact ⟨b, o, l[i], e, List.getElem?_eq_getElem hx, hr i _ (List.getElem?_eq_getElem hx)⟩
end Go.Proofs.Ytlkmenjalpmipaa
