/- Worlds with draws and new blocks behind a world. -/
import Derived.Test.YtblefbjmjhgkkaaRows
import Derived.WalkKit
import Derived.ProofKit
import Derived.OpenShut
import Derived.Lib.Hide
import Derived.LoopTactic
import Derived.Sort.Grow
import Derived.Laws.Rows
import Derived.Below
import Derived.StillTailTactics
import Derived.Deep.QuietTactic
import Derived.BigQuiet
import Derived.Shelf.SlSortCmp.QuietGrown
import Derived.Laws.AppendOwn
import Derived.Laws.AppendOwnNone
import Derived.Laws.OwnMore
import Derived.Laws.IdiomCopy
import Derived.Deep.Upon
import Derived.Deep.AppendLies
set_option linter.unusedVariables false
set_option maxRecDepth 100000
set_option linter.unusedSimpArgs false
namespace Go.Proofs.Ytblefbjmjhgkkaa
open Go.RowKit Go.Sort

/-- A world with draws and new blocks behind w: nothing that was there has changed. -/
def Grw (w w' : World) : Prop := ∃ q os, w' = grow (w.drewN q) os
theorem Grw.refl (w : World) : Grw w w := ⟨0, #[], by rw [grow_empty]; rfl⟩
theorem Grw.drew {w w' : World} (h : Grw w w') : Grw w w'.drew := by
  obtain ⟨q, os, rfl⟩ := h
  exact ⟨q + 1, os, by rw [drew_grow]; rfl⟩
theorem Grw.drewN {w w' : World} (h : Grw w w') (n : Nat) : Grw w (w'.drewN n) := by
  obtain ⟨q, os, rfl⟩ := h
  refine ⟨q + n, os, ?_⟩
  show grow ((w.drewN q).drewN n) os = _
  rw [World.drewN_drewN]
theorem Grw.alloc {w w' : World} (h : Grw w w') (o : Obj) : Grw w (w'.alloc o) := by
  obtain ⟨q, os, rfl⟩ := h
  exact ⟨q, os ++ #[o], by rw [alloc_eq_grow, grow_grow]⟩
theorem Grw.trans {w w' w'' : World} (h : Grw w w') (h' : Grw w' w'') : Grw w w'' := by
  obtain ⟨q, os, rfl⟩ := h
  obtain ⟨q', os', rfl⟩ := h'
  refine ⟨q + q', os ++ os', ?_⟩
  show grow (grow ((w.drewN q).drewN q') os) os' = _
  rw [grow_grow, World.drewN_drewN]
theorem Grw.below {w w' : World} (h : Grw w w') : Below w.heap.size w w' := by
  obtain ⟨q, os, rfl⟩ := h
  exact ⟨rfl, rfl, rfl, by rw [size_grow]; exact Nat.le_add_right _ _, fun k hk => heap_grow_old (w.drewN q) os hk⟩
end Go.Proofs.Ytblefbjmjhgkkaa

/- Rows of things of k cells each, blocks that are known whole. (Copies of elder texts of mine, without what names other layers.) -/
set_option linter.unusedVariables false
set_option maxRecDepth 100000
set_option linter.unusedSimpArgs false
namespace Go.Proofs.Ytblefbjmjhgkkaa
open Go.RowKit Go.Sort

/-- The cells of the elements l lie one behind the other. -/
def RowAt {α : Type} (enc : α → List Value) (k : Nat) (w : World) (b o : Nat) (l : List α) : Prop :=
  ∀ i x, l[i]? = some x → ∀ c v, (enc x)[c]? = some v → w.cell? ⟨b, o + i * k + c, none⟩ = some v
/-- A slice whose elements are l. -/
structure Lst {α : Type} (enc : α → List Value) (k : Nat) (w : World) (ao : Option Addr) (len : Nat) (l : List α) : Prop where
  size : l.length = len
  src : 0 < len → ∃ b o, ao = some ⟨b, o, none⟩ ∧ RowAt enc k w b o l
theorem Lst.below {α : Type} {enc : α → List Value} {k : Nat} {w w' : World} {ao : Option Addr} {len : Nat} {l : List α} (h : Lst enc k w ao len l) (hb : Below w.heap.size w w') : Lst enc k w' ao len l :=
  ⟨h.size, fun hl => let ⟨b, o, e, hr⟩ := h.src hl; ⟨b, o, e, fun i x hx c v hv => (hb.cell (World.block_lt_of_cell? _ _ (hr i x hx c v hv))).trans (hr i x hx c v hv)⟩⟩

section
variable {α : Type}
/-- The cells of some elements, one behind the other. -/
def flat (enc : α → List Value) (l : List α) : List Value := (l.map enc).flatten
theorem flat_nil (enc : α → List Value) : flat enc [] = [] := rfl
theorem flat_cons (enc : α → List Value) (x : α) (l : List α) : flat enc (x :: l) = enc x ++ flat enc l := rfl
theorem flat_append (enc : α → List Value) (l r : List α) : flat enc (l ++ r) = flat enc l ++ flat enc r := by unfold flat; rw [List.map_append, List.flatten_append]
theorem flat_length (enc : α → List Value) (k : Nat) (hk : ∀ x, (enc x).length = k) (l : List α) : (flat enc l).length = l.length * k := by
  induction l with
  | nil => simp [flat_nil]
  | cons x t ih => rw [flat_cons, List.length_append, hk, ih, List.length_cons, Nat.add_mul, Nat.one_mul, Nat.add_comm]
theorem flat_at (enc : α → List Value) (k : Nat) (hk : ∀ x, (enc x).length = k) (l : List α) (i : Nat) (x : α) (h : l[i]? = some x) (c : Nat) (hc : c < k) : (flat enc l)[i * k + c]? = (enc x)[c]? := by
  obtain ⟨hlt, rfl⟩ := List.getElem?_eq_some_iff.1 h
  have e : l = l.take i ++ l[i] :: l.drop (i + 1) := by
    conv => lhs; rw [← List.take_append_drop i l, List.drop_eq_getElem_cons hlt]
  conv => lhs; rw [e, flat_append, flat_cons]
  have hl : (flat enc (l.take i)).length = i * k := by rw [flat_length enc k hk, List.length_take, Nat.min_eq_left (by omega)]
  rw [List.getElem?_append_right (by omega), hl, Nat.add_sub_cancel_left, List.getElem?_append_left (by rw [hk]; exact hc)]
theorem flat_split (enc : α → List Value) (k : Nat) (hk : ∀ x, (enc x).length = k) (l : List α) (j : Nat) (u : Value) (h : (flat enc l)[j]? = some u) : ∃ i x c, l[i]? = some x ∧ (enc x)[c]? = some u ∧ c < k ∧ j = i * k + c := by
  have hj : j < l.length * k := by rw [← flat_length enc k hk]; exact (List.getElem?_eq_some_iff.1 h).1
  have k0 : 0 < k := by
    rcases Nat.eq_zero_or_pos k with e | e
    · subst e; simp at hj
    · exact e
  have hi : j / k < l.length := Nat.div_lt_of_lt_mul (by rwa [Nat.mul_comm] at hj)
  have hd : j / k * k + j % k = j := by rw [Nat.mul_comm]; exact Nat.div_add_mod j k
  have hm := Nat.mod_lt j k0
  refine ⟨j / k, l[j / k], j % k, List.getElem?_eq_getElem hi, ?_, hm, hd.symm⟩
  rw [← flat_at enc k hk l (j / k) _ (List.getElem?_eq_getElem hi) (j % k) hm, hd]
  exact h
theorem RowAt.flat {enc : α → List Value} {k : Nat} {w : World} {b o : Nat} {l : List α} (hk : ∀ x, (enc x).length = k) (h : RowAt enc k w b o l) (j : Nat) (u : Value) (hu : (flat enc l)[j]? = some u) : w.cell? ⟨b, o + j, none⟩ = some u := by
  obtain ⟨i, x, c, hx, hc, _, rfl⟩ := flat_split enc k hk l j u hu
  rw [← Nat.add_assoc]
  exact h i x hx c u hc
end

theorem cell_later {w w' : World} {a : Addr} {v : Value} (hb : Below w.heap.size w w') (h : w.cell? a = some v) : w'.cell? a = some v :=
  (hb.cell (World.block_lt_of_cell? _ _ h)).trans h
/-- 'append' onto a row of the call's own, whatever slice the source is. -/
theorem append_own_any {P : Program} (w : World) {ops : Array Oper} {rest : List Oper} {o : Oper} {a : Act} {Q : Exit → Act → World → Prop} (hgd : o.guard = none) (s x : Operand) (t : TypeId)
    (ho : o.op = .call { callee := .builtin .append, args := #[s, x], argTypes := #[t, t] })
    (base : Nat) (e : TypeId) (i : TypeInfo) (z : Value) (size bytes : Nat) (ht : P.underlying t = some (.slice e)) (hi : P.info? e = some i) (hz : i.zero = some z)
    (hsize : i.size = size) (hby : i.bytes = bytes) (hzs : z.cells.size = size) (hsz : 0 < size)
    (v : Value) (n : Nat) (xs : List Value) (hs : a.eval s = v) (hown : w.ownsRow base e size v n xs)
    (ao : Option Addr) (m c : Nat) (news : List Value) (hx : a.eval x = .slice ao m c) (hnone : ao = none → m = 0 ∧ c = 0) (hl : news.length = m * size) (hnews : ∀ ad, ao = some ad → ∀ j u, news[j]? = some u → w.cell? (ad.add j) = some u) (h1 : ∀ u ∈ news, u.oneCell' = true)
    (h63 : n + m ≤ maxLen) (hbytes : (n + m) * bytes ≤ 140737488355328) (hbase : base ≤ w.heap.size)
    (h : ∀ v' w', w'.ownsRow base e size v' (n + m) (xs ++ news) → w.grownBy w' v.ownBlock → wpList P ops Q rest (a.put o.dst v') w') : wpList P ops Q (o :: rest) a w := by
  cases ao with
  | none =>
    obtain ⟨rfl, rfl⟩ := hnone rfl
    have hnil : news = [] := List.eq_nil_of_length_eq_zero (by simpa using hl)
    subst hnil
    exact wpList_append_own_none hgd s x t ho base e i size ht hi v n xs hs hown hx (h v w (by simpa using hown) (World.grownBy.refl w _))
  | some ad =>
    exact wpList_append_own w hgd s x t ho base e i z size bytes ht hi hz hsize hby hzs hsz v n xs hs hown ad m c news hx hl (hnews ad rfl) h1 h63 hbytes hbase fun v' w' h2 h3 _ => h v' w' h2 h3
/-- A row of the call's own, read as a slice. -/
theorem own_lst' {α : Type} {enc : α → List Value} {k : Nat} {w : World} {base n cap : Nat} {t : TypeId} {ao : Option Addr} {l : List α} (hk : ∀ x, (enc x).length = k) (hl : l.length = n) (h : w.ownsRow base t k (.slice ao n cap) n (flat enc l)) : Lst enc k w ao n l := by
  refine ⟨hl, fun h0 => ?_⟩
  rcases h.2 with ⟨h', h''⟩ | ⟨g, c, cur, h', _⟩
  · omega
  · injection h' with h1 h2 h3
    subst h1
    refine ⟨g, 0, rfl, fun i x hx c v hv => ?_⟩
    have hc : c < k := by rw [← hk x]; exact (List.getElem?_eq_some_iff.1 hv).1
    have hil := (List.getElem?_eq_some_iff.1 hx).1
    have hb : i * k + c < n * k := by
      have := Nat.mul_le_mul_right k (show i + 1 ≤ n by omega)
      rw [Nat.add_mul, Nat.one_mul] at this
      omega
    rw [Nat.zero_add, h.cellAt (i * k + c) hb, flat_at enc k hk l i x hx c hc]
    exact hv

theorem own_form' {w : World} {base n k : Nat} {t : TypeId} {v : Value} {xs : List Value} (h : w.ownsRow base t k v n xs) : ∃ ao cap, v = .slice ao n cap := by
  rcases h.2 with ⟨rfl, rfl⟩ | ⟨g, c, cur, rfl, _⟩
  · exact ⟨_, _, rfl⟩
  · exact ⟨_, _, rfl⟩
theorem own_base {w : World} {base base' n k : Nat} {t : TypeId} {v : Value} {xs : List Value} (h : w.ownsRow base t k v n xs) (hb : base' ≤ base) : w.ownsRow base' t k v n xs := by
  refine ⟨h.1, ?_⟩
  rcases h.2 with h1 | ⟨g, cap, cur, h1, h2, h3⟩
  · exact .inl h1
  · exact .inr ⟨g, cap, cur, h1, Nat.le_trans hb h2, h3⟩
theorem own_eq {w : World} {base n n' k : Nat} {t : TypeId} {v : Value} {xs xs' : List Value} (h : w.ownsRow base t k v n xs) (hn : n = n') (hx : xs = xs') : w.ownsRow base t k v n' xs' := by subst hn hx; exact h
/-- Where the row lies, and what it can take. -/
theorem own_cases {w : World} {base n k : Nat} {t : TypeId} {v : Value} {xs : List Value} (h : w.ownsRow base t k v n xs) : (v = .slice none 0 0 ∧ n = 0) ∨ ∃ g cap, v = .slice (some ⟨g, 0, none⟩) n cap ∧ n ≤ cap ∧ cap ≤ maxLen := by
  rcases h.2 with h1 | ⟨g, cap, cur, h1, _, _, h4, h5, _⟩
  · exact .inl h1
  · exact .inr ⟨g, cap, h1, h4, h5⟩
/-- Behind a call that only makes memory a row stays. -/
theorem own_grw {w w' : World} {base n k : Nat} {t : TypeId} {v : Value} {xs : List Value} (h : w.ownsRow base t k v n xs) (hg : Grw w w') : w'.ownsRow base t k v n xs := by
  refine ⟨h.1, ?_⟩
  rcases h.2 with h1 | ⟨g, cap, cur, h1, h2, h3, h4⟩
  · exact .inl h1
  · exact .inr ⟨g, cap, cur, h1, h2, (hg.below.block g (Array.getElem?_eq_some_iff.1 h3).1).trans h3, h4⟩

/-- A block of the call's own, whole. -/
def Own (w : World) (g : Nat) (ty : TypeId) (cs : Array Value) : Prop := w.heap[g]? = some (.cells cs ty (0, 0))
theorem Own.is {w : World} {g : Nat} {ty : TypeId} {cs : Array Value} (h : Own w g ty cs) : w.heap[g]? = some (.cells cs ty (0, 0)) := h
theorem Own.lt {w : World} {g : Nat} {ty : TypeId} {cs : Array Value} (h : Own w g ty cs) : g < w.heap.size := (Array.getElem?_eq_some_iff.1 h).1
theorem Own.new (w : World) (ty : TypeId) (cs : Array Value) : Own (w.alloc (.cells cs ty)) w.heap.size ty cs := heap_alloc_new w _
theorem Own.at_ {w : World} {g : Nat} {ty : TypeId} {cs : Array Value} (h : Own w g ty cs) (j : Nat) (v : Value) (hv : cs[j]? = some v) : w.cell? ⟨g, j, none⟩ = some v := by rw [cell_of_row _ _ _ _ _ _ h]; exact hv
theorem Own.free {w : World} {g : Nat} {ty : TypeId} {cs : Array Value} (h : Own w g ty cs) (j : Nat) : w.frozen? ⟨g, j, none⟩ = false := frozen_of_row w g j cs ty h
theorem Own.grown {w w' : World} {g : Nat} {ty : TypeId} {cs : Array Value} {o : Option Nat} (h : Own w g ty cs) (hg : w.grownBy w' o) (ho : some g ≠ o) : Own w' g ty cs := (hg.block g h.lt ho).trans h
theorem Own.below {w w' : World} {g : Nat} {ty : TypeId} {cs : Array Value} {B : Nat} (h : Own w g ty cs) (hb : Below B w w') (hB : g < B) : Own w' g ty cs := (hb.block g hB).trans h
theorem Own.set {w : World} {g : Nat} {ty : TypeId} {cs : Array Value} (h : Own w g ty cs) (j : Nat) (v : Value) : Own (w.setCell ⟨g, j, none⟩ v) g ty (cs.setIfInBounds j v) := heap_setCell_same w g j cs ty v h
theorem Own.set_other {w : World} {g : Nat} {ty : TypeId} {cs : Array Value} (h : Own w g ty cs) (k j : Nat) (v : Value) (hk : g ≠ k) : Own (w.setCell ⟨k, j, none⟩ v) g ty cs := (heap_setCell_other w _ _ v hk).trans h
theorem Own.drew {w : World} {g : Nat} {ty : TypeId} {cs : Array Value} (h : Own w g ty cs) : Own w.drew g ty cs := h

/-- Cells put one behind the other into a block that is known whole. -/
theorem heap_setCells {b : Nat} {T : TypeId} : ∀ (vs : List Value) (o : Nat) (w : World) (cur : Array Value), w.heap[b]? = some (.cells cur T (0, 0)) → o + vs.length ≤ cur.size →
    ∃ cur' : Array Value, (w.setCells b o vs).heap[b]? = some (.cells cur' T (0, 0)) ∧ cur'.toList = cur.toList.take o ++ vs ++ cur.toList.drop (o + vs.length)
  | [], o, w, cur, h, _ => ⟨cur, h, by simp⟩
  | v :: r, o, w, cur, h, hs => by
    have h1 := heap_setCell_same w b o cur T v h
    obtain ⟨cur', hc, hl⟩ := heap_setCells r (o + 1) (w.setCell ⟨b, o, none⟩ v) (cur.setIfInBounds o v) h1 (by simp at hs ⊢; omega)
    refine ⟨cur', hc, ?_⟩
    simp only [List.length_cons] at hs
    rw [hl, Array.toList_setIfInBounds]
    have e1 : (cur.toList.set o v).take (o + 1) = cur.toList.take o ++ [v] := by
      apply List.ext_getElem?
      intro i
      rw [List.getElem?_take, List.getElem?_set]
      by_cases hi : i < o
      · rw [if_pos (by omega), if_neg (by omega), List.getElem?_append_left (by simp; omega), List.getElem?_take, if_pos hi]
      · by_cases hi2 : i = o
        · subst hi2
          rw [if_pos (by omega), if_pos rfl, List.getElem?_append_right (by simp; omega), if_pos (by simp; omega)]
          simp [Nat.min_eq_left (show i ≤ cur.size by omega)]
        · rw [if_neg (by omega), List.getElem?_eq_none (by simp; omega)]
    have e2 : (cur.toList.set o v).drop (o + 1 + r.length) = cur.toList.drop (o + (r.length + 1)) := by
      rw [List.drop_set, if_pos (by omega)]; congr 1; omega
    rw [e1, e2]
    simp
end Go.Proofs.Ytblefbjmjhgkkaa
