/- Rows of messages that lie anywhere in their block; which blocks may turn. -/
import Derived.Test.YthgdiihibjnhoaaSRow
import Derived.ArgAppend
import Derived.Deep.MidRow
set_option linter.unusedVariables false
set_option linter.unusedSimpArgs false
namespace Go.Proofs.Ythgdiihibjnhoaa
open Go.RowKit Go.Sort

/-- Of what was there only blocks of D have turned. -/
structure Chg (D : Nat → Prop) (w w' : World) : Prop where
  os : w'.os = w.os
  tape : w'.tape = w.tape
  output : w'.output = w.output
  size : w.heap.size ≤ w'.heap.size
  block : ∀ k, k < w.heap.size → ¬ D k → w'.heap[k]? = w.heap[k]?
theorem Chg.refl (D : Nat → Prop) (w : World) : Chg D w w := ⟨rfl, rfl, rfl, Nat.le_refl _, fun _ _ _ => rfl⟩
theorem Chg.to {D E : Nat → Prop} {a b c : World} (h : Chg D a b) (k : Chg E b c) (hE : ∀ i, i < a.heap.size → E i → D i) : Chg D a c :=
  ⟨k.os.trans h.os, k.tape.trans h.tape, k.output.trans h.output, Nat.le_trans h.size k.size, fun i hi hn => (k.block i (Nat.lt_of_lt_of_le hi h.size) (fun e => hn (hE i hi e))).trans (h.block i hi hn)⟩
theorem Chg.trans {D : Nat → Prop} {a b c : World} (h : Chg D a b) (k : Chg D b c) : Chg D a c := h.to k fun _ _ e => e
theorem Chg.mono {D E : Nat → Prop} {a b : World} (h : Chg D a b) (hE : ∀ i, i < a.heap.size → D i → E i) : Chg E a b :=
  ⟨h.os, h.tape, h.output, h.size, fun i hi hn => h.block i hi (fun e => hn (hE i hi e))⟩
theorem Chg.of_below {D : Nat → Prop} {w w' : World} (h : Below w.heap.size w w') : Chg D w w' := ⟨h.os, h.tape, h.output, h.size, fun k hk _ => h.block k hk⟩
theorem Chg.grown {D : Nat → Prop} {w w' : World} {o : Option Nat} (h : w.grownBy w' o) (ho : ∀ k, o = some k → D k) : Chg D w w' :=
  ⟨h.os, h.tape, h.output, h.size, fun k hk hn => h.block k hk (fun e => hn (ho k e.symm))⟩
theorem Chg.below {D : Nat → Prop} {B : Nat} {w w' : World} (h : Chg D w w') (h0 : B ≤ w.heap.size) (hD : ∀ k, D k → B ≤ k) : Below B w w' :=
  ⟨h.os, h.tape, h.output, h.size, fun k hk => h.block k (by omega) (fun e => by have := hD k e; omega)⟩
theorem Chg.alloc {D : Nat → Prop} {a b : World} (h : Chg D a b) (o : Obj) : Chg D a (b.alloc o) := h.to (Chg.of_below (D := fun _ => False) (((Grw.refl b).alloc o).below)) fun _ _ e => e.elim
theorem Chg.then {D : Nat → Prop} {a b c : World} (h : Chg D a b) (k : Below b.heap.size b c) : Chg D a c := h.to (Chg.of_below (D := fun _ => False) k) fun _ _ e => e.elim
theorem Chg.after {D : Nat → Prop} {a b c : World} (h : Below a.heap.size a b) (k : Chg D b c) : Chg D a c := (Chg.of_below (D := fun _ => False) h).mono (fun _ _ e => e.elim) |>.to k fun _ _ e => e

/-- A message, but for where its Deps lie. -/
def strip (m : Mg) : Mg := { m with a := none, dc := 0 }
theorem strip_same {x y : Mg} (h : strip x = strip y) : sameG x y = true := by
  obtain ⟨f, q, s, v, a, dl, dc, deps, text⟩ := x
  obtain ⟨f', q', s', v', a', dl', dc', deps', text'⟩ := y
  unfold strip at h
  injection h with h1 h2 h3 h4 _ h5 _ h6 h7
  simp only at h1 h2 h3 h4 h5 h6 h7
  subst h1 h2 h3 h4 h5 h6 h7
  unfold sameG; simp
theorem strip_like {x y : Mg} (h : Like x y) : strip x = strip y := by obtain ⟨a, dc, rfl⟩ := h; rfl
theorem strip_f {x y : Mg} (h : strip x = strip y) : x.f = y.f := by have := congrArg Mg.f h; exact this
theorem strip_q {x y : Mg} (h : strip x = strip y) : x.q = y.q := by have := congrArg Mg.q h; exact this
theorem strip_s {x y : Mg} (h : strip x = strip y) : x.s = y.s := by have := congrArg Mg.s h; exact this
theorem strip_strip (x : Mg) : strip (strip x) = strip x := rfl

/-- A slice. -/
structure Sl where
  a : Option Addr
  n : Nat
  c : Nat
  deriving Inhabited
def Sl.v (s : Sl) : Value := .slice s.a s.n s.c
def slNil : Sl := ⟨none, 0, 0⟩
/-- A row of messages in the block b, from the cell 'off' on. -/
structure MRow (w : World) (b off n cap : Nat) (X : List Mg) : Prop where
  ex : ∃ cur : Array Value, w.heap[b]? = some (.cells cur 35 (0, 0)) ∧ off + cap * 6 ≤ cur.size ∧ ∀ j u, (flat encG X)[j]? = some u → cur[off + j]? = some u
  len : X.length = n
  le : n ≤ cap
  max : cap ≤ maxLen
section
variable {w : World} {b off n cap : Nat} {X : List Mg}
theorem MRow.lt (h : MRow w b off n cap X) : b < w.heap.size := by
  obtain ⟨cur, h1, _⟩ := h.ex
  exact (Array.getElem?_eq_some_iff.1 h1).1
theorem MRow.kept {w' : World} (h : MRow w b off n cap X) (hb : w'.heap[b]? = w.heap[b]?) : MRow w' b off n cap X := by
  obtain ⟨cur, h1, h2⟩ := h.ex
  exact ⟨⟨cur, hb.trans h1, h2⟩, h.len, h.le, h.max⟩
theorem MRow.below {w' : World} (h : MRow w b off n cap X) (hb : Below w.heap.size w w') : MRow w' b off n cap X := h.kept (hb.block b h.lt)
theorem MRow.cell (h : MRow w b off n cap X) (j : Nat) (u : Value) (hu : (flat encG X)[j]? = some u) : w.cell? ⟨b, off + j, none⟩ = some u := by
  obtain ⟨cur, h1, _, h3⟩ := h.ex
  rw [cell_of_row _ _ _ _ _ _ h1]
  exact h3 j u hu
theorem MRow.free (h : MRow w b off n cap X) (j : Nat) : w.frozen? ⟨b, j, none⟩ = false := by
  obtain ⟨cur, h1, _⟩ := h.ex
  exact frozen_of_row w b j cur _ h1
theorem MRow.there (h : MRow w b off n cap X) (j : Nat) (hj : j < cap * 6) : (w.cell? ⟨b, off + j, none⟩).isSome = true := by
  obtain ⟨cur, h1, h2, _⟩ := h.ex
  rw [cell_of_row _ _ _ _ _ _ h1, Array.getElem?_eq_getElem (by omega)]
  rfl
theorem MRow.lst (h : MRow w b off n cap X) : Lst encG 6 w (some ⟨b, off, none⟩) n X := by
  refine ⟨h.len, fun h0 => ⟨b, off, rfl, fun i x hx c v hv => ?_⟩⟩
  have hc : c < 6 := by have := (List.getElem?_eq_some_iff.1 hv).1; rwa [encG_length] at this
  rw [Nat.add_assoc]
  exact h.cell _ _ (by rw [flat_at encG 6 encG_length X i x hx c hc]; exact hv)
theorem MRow.take (h : MRow w b off n cap X) (k : Nat) (hk : k ≤ n) : MRow w b off k cap (X.take k) := by
  obtain ⟨cur, h1, h2, h3⟩ := h.ex
  refine ⟨⟨cur, h1, h2, fun j u hu => h3 j u ?_⟩, by rw [List.length_take, h.len]; omega, by have := h.le; omega, h.max⟩
  have e : flat encG X = flat encG (X.take k) ++ flat encG (X.drop k) := by rw [← flat_append, List.take_append_drop]
  rw [e, List.getElem?_append_left (List.getElem?_eq_some_iff.1 hu).1]
  exact hu
theorem flat_drop (X : List Mg) (k j : Nat) (hk : k ≤ X.length) : (flat encG (X.drop k))[j]? = (flat encG X)[k * 6 + j]? := by
  have e : flat encG X = flat encG (X.take k) ++ flat encG (X.drop k) := by rw [← flat_append, List.take_append_drop]
  have hl : (flat encG (X.take k)).length = k * 6 := by rw [flat_length encG 6 encG_length, List.length_take, Nat.min_eq_left hk]
  rw [e, List.getElem?_append_right (by omega), hl, Nat.add_sub_cancel_left]
theorem MRow.drop (h : MRow w b off n cap X) (k : Nat) (hk : k ≤ n) : MRow w b (off + k * 6) (n - k) (cap - k) (X.drop k) := by
  obtain ⟨cur, h1, h2, h3⟩ := h.ex
  have hle := h.le
  have hmx := h.max
  have hc : k * 6 + (cap - k) * 6 = cap * 6 := by rw [← Nat.add_mul]; congr 1; omega
  refine ⟨⟨cur, h1, by omega, fun j u hu => ?_⟩, by rw [List.length_drop, h.len], by omega, by omega⟩
  rw [flat_drop X k j (by rw [h.len]; exact hk)] at hu
  rw [Nat.add_assoc]
  exact h3 _ u hu
/-- An empty row at the same block. -/
theorem MRow.none (h : MRow w b off n cap X) : MRow w b off 0 0 [] := by
  obtain ⟨cur, h1, h2, h3⟩ := h.ex
  exact ⟨⟨cur, h1, by omega, fun j u hu => by simp [flat] at hu⟩, rfl, Nat.le_refl _, Nat.zero_le _⟩
theorem MRow.of_own {base : Nat} (h : w.ownsRow base 35 6 (.slice (some ⟨b, 0, Option.none⟩) n cap) n (flat encG X)) (hl : X.length = n) : MRow w b 0 n cap X := by
  rcases h.2 with ⟨h1, _⟩ | ⟨g, c, cur, h1, _, h3, h4, h5, h6, h7⟩
  · cases h1
  · injection h1 with e1 e2 e3
    injection e1 with e1
    injection e1 with e1
    subst e1 e3
    refine ⟨⟨cur, h3, by omega, fun j u hu => ?_⟩, hl, h4, h5⟩
    rw [Nat.zero_add, ← Array.getElem?_toList]
    rw [← h7, List.getElem?_take] at hu
    split at hu
    · exact hu
    · cases hu
/-- Cells of the block written elsewhere than where the row lies. -/
theorem MRow.cells (h : MRow w b off n cap X) (o : Nat) (vs : List Value) (ho : o + vs.length ≤ off + cap * 6) (hap : o + vs.length ≤ off ∨ off + n * 6 ≤ o) : MRow (w.setCells b o vs) b off n cap X := by
  obtain ⟨cur, h1, h2, h3⟩ := h.ex
  obtain ⟨cur', k1, k2⟩ := heap_setCells vs o w cur h1 (by omega)
  have hs : cur'.size = cur.size := by
    have := congrArg List.length k2
    simp only [List.length_append, List.length_take, List.length_drop, Array.length_toList] at this
    omega
  refine ⟨⟨cur', k1, by omega, fun j u hu => ?_⟩, h.len, h.le, h.max⟩
  have hj : j < n * 6 := by have := (List.getElem?_eq_some_iff.1 hu).1; rwa [flat_length encG 6 encG_length, h.len] at this
  rw [← Array.getElem?_toList, k2]
  have h4 := h3 j u hu
  have hjs : off + j < cur.size := (Array.getElem?_eq_some_iff.1 h4).1
  rw [← Array.getElem?_toList] at h4
  rcases hap with ha | ha
  · rw [List.getElem?_append_right (by simp only [List.length_append, List.length_take, Array.length_toList]; omega), List.getElem?_drop]
    simp only [List.length_append, List.length_take, Array.length_toList]
    rw [show o + vs.length + (off + j - (min o cur.size + vs.length)) = off + j by omega]
    exact h4
  · rw [List.append_assoc, List.getElem?_append_left (by simp only [List.length_take, Array.length_toList]; omega), List.getElem?_take, if_pos (by omega)]
    exact h4
/-- The row with some behind it, written into its room. -/
theorem MRow.more (h : MRow w b off n cap X) (L : List Mg) (hr : n + L.length ≤ cap) : MRow (w.setCells b (off + n * 6) (flat encG L)) b off (n + L.length) cap (X ++ L) := by
  have hfl := flat_length encG 6 encG_length L
  have hfx := flat_length encG 6 encG_length X
  have hc : n * 6 + L.length * 6 ≤ cap * 6 := by rw [← Nat.add_mul]; exact Nat.mul_le_mul_right _ hr
  have h0 := h.cells (off + n * 6) (flat encG L) (by omega) (.inr (Nat.le_refl _))
  obtain ⟨cur, h1, h2, h3⟩ := h.ex
  obtain ⟨cur', k1, k2⟩ := heap_setCells (flat encG L) (off + n * 6) w cur h1 (by omega)
  have hs : cur'.size = cur.size := by
    have := congrArg List.length k2
    simp only [List.length_append, List.length_take, List.length_drop, Array.length_toList] at this
    omega
  refine ⟨⟨cur', k1, by omega, fun j u hu => ?_⟩, by rw [List.length_append, h.len], hr, h.max⟩
  rw [flat_append] at hu
  by_cases hj : j < n * 6
  · rw [List.getElem?_append_left (by rw [hfx, h.len]; exact hj)] at hu
    obtain ⟨cur2, q1, _, q3⟩ := h0.ex
    rw [k1] at q1
    cases q1
    exact q3 j u hu
  · rw [List.getElem?_append_right (by rw [hfx, h.len]; omega), hfx, h.len] at hu
    have hj2 := (List.getElem?_eq_some_iff.1 hu).1
    rw [← Array.getElem?_toList, k2, List.append_assoc, List.getElem?_append_right (by simp only [List.length_take, Array.length_toList]; omega), List.getElem?_append_left (by simp only [List.length_take, Array.length_toList]; omega)]
    simp only [List.length_take, Array.length_toList]
    rw [show off + j - min (off + n * 6) cur.size = j - n * 6 by omega]
    exact hu
/-- One cell of one of them is another one. -/
theorem MRow.set (h : MRow w b off n cap X) (i c : Nat) (x y : Mg) (v : Value) (hx : X[i]? = some x) (hc : c < 6) (hv : (encG y)[c]? = some v) (hk : ∀ d, d ≠ c → (encG y)[d]? = (encG x)[d]?) : MRow (w.setCell ⟨b, off + i * 6 + c, Option.none⟩ v) b off n cap (X.set i y) := by
  obtain ⟨cur, h1, h2, h3⟩ := h.ex
  have hi := (List.getElem?_eq_some_iff.1 hx).1
  have k1 := heap_setCell_same w b (off + i * 6 + c) cur _ v h1
  have hin : off + i * 6 + c < cur.size := by
    have := h3 (i * 6 + c) ((encG x)[c]?.getD (Value.bool true)) (by
      rw [flat_at encG 6 encG_length X i x hx c hc]
      rw [List.getElem?_eq_getElem (by rw [encG_length]; exact hc)]; rfl)
    have := (Array.getElem?_eq_some_iff.1 this).1
    omega
  refine ⟨⟨_, k1, by simpa using h2, fun j u hu => ?_⟩, by rw [List.length_set]; exact h.len, h.le, h.max⟩
  obtain ⟨i', x', c', hx', hc', hlt', rfl⟩ := flat_split encG 6 encG_length _ j u hu
  rw [Array.getElem?_setIfInBounds]
  rw [List.getElem?_set] at hx'
  by_cases he : i = i'
  · subst he
    rw [if_pos rfl, if_pos hi] at hx'
    cases hx'
    by_cases hcc : c = c'
    · subst hcc
      rw [if_pos (by omega), if_pos (by omega)]
      exact hv.symm.trans hc'
    · rw [if_neg (by omega)]
      refine h3 _ u ?_
      rw [flat_at encG 6 encG_length X i x hx c' hlt', ← hk c' (fun e => hcc e.symm)]
      exact hc'
  · rw [if_neg he] at hx'
    rw [if_neg (by omega)]
    refine h3 _ u ?_
    rw [flat_at encG 6 encG_length X i' x' hx' c' hlt']
    exact hc'
end

/-- A slice of messages of which nobody else has the block. -/
def SlotAt (w : World) (s : Sl) (X : List Mg) : Prop := (s = slNil ∧ X = []) ∨ ∃ b off, s.a = some ⟨b, off, none⟩ ∧ MRow w b off s.n s.c X
theorem SlotAt.nil (w : World) : SlotAt w slNil [] := .inl ⟨rfl, rfl⟩
theorem SlotAt.len {w : World} {s : Sl} {X : List Mg} (h : SlotAt w s X) : X.length = s.n := by
  rcases h with ⟨rfl, rfl⟩ | ⟨b, off, _, h⟩
  · rfl
  · exact h.len
theorem SlotAt.le {w : World} {s : Sl} {X : List Mg} (h : SlotAt w s X) : s.n ≤ s.c := by
  rcases h with ⟨rfl, rfl⟩ | ⟨b, off, _, h⟩
  · exact Nat.le_refl _
  · exact h.le
theorem SlotAt.cap0 {w : World} {s : Sl} {X : List Mg} (h : SlotAt w s X) : s.a = none → s.c = 0 := by
  intro e
  rcases h with ⟨rfl, rfl⟩ | ⟨b, off, e2, h⟩
  · rfl
  · rw [e] at e2; cases e2
theorem SlotAt.lst {w : World} {s : Sl} {X : List Mg} (h : SlotAt w s X) : Lst encG 6 w s.a s.n X := by
  rcases h with ⟨rfl, rfl⟩ | ⟨b, off, e, h⟩
  · exact ⟨rfl, fun h0 => by simp [slNil] at h0⟩
  · rw [e]; exact h.lst
theorem SlotAt.lt {w : World} {s : Sl} {X : List Mg} (h : SlotAt w s X) (x : Addr) (hx : s.a = some x) : x.block < w.heap.size := by
  rcases h with ⟨rfl, rfl⟩ | ⟨b, off, e, h⟩
  · cases hx
  · rw [e] at hx; cases hx; exact h.lt
theorem SlotAt.typ {w : World} {s : Sl} {X : List Mg} (h : SlotAt w s X) (x : Addr) (hx : s.a = some x) : ∃ cur, w.heap[x.block]? = some (.cells cur 35 (0, 0)) := by
  rcases h with ⟨rfl, rfl⟩ | ⟨b, off, e, h⟩
  · cases hx
  · rw [e] at hx; cases hx; obtain ⟨cur, h1, _⟩ := h.ex; exact ⟨cur, h1⟩
theorem SlotAt.kept {w w' : World} {s : Sl} {X : List Mg} (h : SlotAt w s X) (hb : ∀ x, s.a = some x → w'.heap[x.block]? = w.heap[x.block]?) : SlotAt w' s X := by
  rcases h with h | ⟨b, off, e, h⟩
  · exact .inl h
  · exact .inr ⟨b, off, e, h.kept (hb _ e)⟩
theorem SlotAt.below {w w' : World} {s : Sl} {X : List Mg} (h : SlotAt w s X) (hb : Below w.heap.size w w') : SlotAt w' s X := h.kept fun x hx => hb.block _ (h.lt x hx)
theorem SlotAt.max {w : World} {s : Sl} {X : List Mg} (h : SlotAt w s X) : s.c ≤ maxLen := by
  rcases h with ⟨rfl, rfl⟩ | ⟨b, off, e, h⟩
  · exact Nat.zero_le _
  · exact h.max
theorem flatG_one12 {l : List Mg} : ∀ u ∈ flat encG l, u.oneCell' = true := flatG_one
theorem grownCells12 (b : Nat) : ∀ (vs : List Value) (o : Nat) (w : World), w.grownBy (w.setCells b o vs) (some b)
  | [], o, w => World.grownBy.refl w _
  | v :: r, o, w => by
    have h1 := grown_set w b o v
    have h2 := grownCells12 b r (o + 1) (w.setCell ⟨b, o, none⟩ v)
    exact ⟨h2.os.trans h1.os, h2.tape.trans h1.tape, h2.output.trans h1.output, Nat.le_trans h1.size h2.size, fun i hi hn => (h2.block i (Nat.lt_of_lt_of_le hi h1.size) hn).trans (h1.block i hi hn)⟩
/-- 'append' of some messages onto such a slice. -/
theorem run_append_h {w : World} {s : Sl} {X : List Mg} (h : SlotAt w s X) (ty : TypeId) (ad : Addr) (m c : Nat) (L : List Mg) (hl : Lst encG 6 w (some ad) m L) (hm : 0 < m) (hn : s.n + m ≤ 200000) :
    ∃ s' w', (Builtin.append_ #[25, 25] ty #[s.v, .slice (some ad) m c]).run Try.prog w = .ok s'.v w' ∧ SlotAt w' s' (X ++ L) ∧ s'.n = s.n + m ∧ w.grownBy w' s.v.ownBlock ∧
      (∃ x, s'.a = some x ∧ ((∃ y, s.a = some y ∧ y.block = x.block) ∨ w.heap.size ≤ x.block)) := by
  obtain ⟨i0, hi, hz0, hz1, hz2⟩ := info_parts infoMg
  have ht := Try.underlying25
  have hfl : (flat encG L).length = m * 6 := by rw [flat_length encG 6 encG_length, hl.size]
  have hnews : ∀ j u, (flat encG L)[j]? = some u → w.cell? (ad.add j) = some u := fun j u hu => by
    obtain ⟨b, o', e', R⟩ := hl.src hm
    cases e'
    rw [add_lit10]
    exact R.flat encG_length j u hu
  rcases h with ⟨rfl, rfl⟩ | ⟨b, off, e, h⟩
  · obtain ⟨v', w', hr, h2, h3, _⟩ := run_append_own (P := Try.prog) w w.heap.size 25 ty 35 i0 zeroMg 6 72 ht hi hz0 hz1 hz2 rfl (by decide) (.slice none 0 0) 0 [] (World.ownsRow_nil w _ _ _) ad m c (flat encG L) hfl hnews flatG_one (by unfold maxLen; simp [slNil] at hn; omega) (by simp [slNil] at hn; omega) (Nat.le_refl _)
    rw [List.nil_append] at h2 ⊢
    rcases h2.2 with ⟨_, h0⟩ | ⟨g, cap, cur, rfl, hb, _⟩
    · omega
    · refine ⟨⟨some ⟨g, 0, none⟩, 0 + m, cap⟩, w', hr, .inr ⟨g, 0, rfl, ?_⟩, rfl, h3, ⟨_, rfl, .inr hb⟩⟩
      exact MRow.of_own h2 (by rw [hl.size, Nat.zero_add])
  · obtain ⟨sa, sn, sc⟩ := s
    simp only at e h hn ⊢
    subst e
    by_cases hroom : sn + m ≤ sc
    · have hc : sn * 6 + m * 6 ≤ sc * 6 := by rw [← Nat.add_mul]; exact Nat.mul_le_mul_right _ hroom
      have hr := run_append_room_cells (P := Try.prog) w 25 ty 35 i0 ht hi b off sn sc ad m c (flat encG L) (by rw [hfl, hz1]) hnews flatG_one hroom (fun j hj => by rw [hz1, Nat.add_assoc]; exact h.there _ (by omega)) (fun j hj => h.free _)
      rw [hz1] at hr
      have := h.more L (by rw [hl.size]; exact hroom)
      rw [hl.size] at this
      exact ⟨⟨some ⟨b, off, none⟩, sn + m, sc⟩, _, hr, .inr ⟨b, off, rfl, this⟩, rfl, grownCells12 b _ _ w, ⟨_, rfl, .inl ⟨_, rfl, rfl⟩⟩⟩
    · obtain ⟨v', w', hr, h2, h3⟩ := run_append_arg_grows (P := Try.prog) w 25 ty 35 i0 zeroMg 6 72 ht hi hz0 hz1 hz2 rfl (by decide) ⟨b, off, none⟩ sn sc (flat encG X) (by rw [flat_length encG 6 encG_length, h.len]) (fun j u hu => by rw [add_lit10]; exact h.cell j u hu) ad m c (flat encG L) hfl hnews (by omega) (by unfold maxLen; omega) (by omega)
      rw [← flat_append] at h2
      rcases h2.2 with ⟨_, h0⟩ | ⟨g, cap, cur, rfl, hb, _⟩
      · omega
      · refine ⟨⟨some ⟨g, 0, none⟩, sn + m, cap⟩, w', hr, .inr ⟨g, 0, rfl, ?_⟩, rfl, ⟨h3.os, h3.tape, h3.output, h3.size, fun k hk _ => h3.block k hk (by simp)⟩, ⟨_, rfl, .inr hb⟩⟩
        exact MRow.of_own h2 (by rw [List.length_append, hl.size, h.len])
/-- The same at the operation. -/
theorem wp_append_h {w : World} {o : Oper} {a : Act} {K : Act → World → Prop} {Q : Exit → Act → World → Prop} (sx x : Operand)
    (ho : o.op = .call { callee := .builtin .append, args := #[sx, x], argTypes := #[25, 25] })
    (s : Sl) (X : List Mg) (hs : a.eval sx = s.v) (h : SlotAt w s X) (ad : Addr) (m c : Nat) (L : List Mg) (hx : a.eval x = .slice (some ad) m c) (hl : Lst encG 6 w (some ad) m L) (hm : 0 < m) (hn : s.n + m ≤ 200000)
    (hK : ∀ s' w', SlotAt w' s' (X ++ L) → s'.n = s.n + m → w.grownBy w' s.v.ownBlock → (∃ x, s'.a = some x ∧ ((∃ y, s.a = some y ∧ y.block = x.block) ∨ w.heap.size ≤ x.block)) → K (a.put o.dst s'.v) w') : o.wp Try.prog a w K Q := by
  obtain ⟨s', w', hr, h2, h3, h4, h5⟩ := run_append_h h o.type ad m c L hl hm hn
  unfold Oper.wp execOp
  simp only [ho, resolve, invoke, builtin, Sem.run_bind, Sem.run_pure, Result.andThen_ok, List.map_toArray, List.map_cons, List.map_nil, hs, hx, hr]
  exact hK s' w' h2 h3 h4 h5
theorem wpList_append_h {w : World} {ops : Array Oper} {rest : List Oper} {o : Oper} {a : Act} {Q : Exit → Act → World → Prop} (hgd : o.guard = none) (sx x : Operand)
    (ho : o.op = .call { callee := .builtin .append, args := #[sx, x], argTypes := #[25, 25] })
    (s : Sl) (X : List Mg) (hs : a.eval sx = s.v) (h : SlotAt w s X) (ad : Addr) (m c : Nat) (L : List Mg) (hx : a.eval x = .slice (some ad) m c) (hl : Lst encG 6 w (some ad) m L) (hm : 0 < m) (hn : s.n + m ≤ 200000)
    (hK : ∀ s' w', SlotAt w' s' (X ++ L) → s'.n = s.n + m → w.grownBy w' s.v.ownBlock → (∃ x, s'.a = some x ∧ ((∃ y, s.a = some y ∧ y.block = x.block) ∨ w.heap.size ≤ x.block)) → wpList Try.prog ops Q rest (a.put o.dst s'.v) w') : wpList Try.prog ops Q (o :: rest) a w :=
  wpList_plain hgd fun K hK' => wp_append_h sx x ho s X hs h ad m c L hx hl hm hn fun s' w' h2 h3 h4 h5 => hK' _ _ (hK s' w' h2 h3 h4 h5)
/-- 'clear' of the first k of a row. -/
theorem run_clear_h {w : World} {b off n cap : Nat} {X : List Mg} (h : MRow w b off n cap X) (k c : Nat) (hk : k ≤ n) :
    ∃ vs : List Value, vs.length = k * 6 ∧ ∀ ty : TypeId, (Builtin.clear_ #[25] ty #[.slice (some ⟨b, off, none⟩) k c]).run Try.prog w = .ok (.tuple #[]) (w.setCells b off vs) := by
  have hv : ∀ w, (zeroValue 35).run Try.prog w = .ok zeroMg w := fun w => by kernel_rfl
  have hle := h.le
  rcases Nat.eq_zero_or_pos k with rfl | hk0
  · refine ⟨[], rfl, fun ty => ?_⟩
    simp [Builtin.clear_, run_underlying Try.underlying25]
    rfl
  · refine ⟨(Builtin.zeroCells zeroMg.cells k).toList, by simp [size_zeroCells]; rfl, fun ty => ?_⟩
    have hlen : (Builtin.zeroCells zeroMg.cells k).toList.length = k * 6 := by simp [size_zeroCells]; rfl
    have hkc : k * 6 ≤ cap * 6 := Nat.mul_le_mul_right _ (by omega)
    have hst := run_storeCells_cells (P := Try.prog) b off (Builtin.zeroCells zeroMg.cells k).toList 0 w (fun j hj => by rw [Nat.add_zero]; exact h.there j (by omega)) (fun j hj => h.free _) (fun v hv' => by
      simp only [Builtin.zeroCells, Array.toList_map, List.mem_map] at hv'
      obtain ⟨i, _, rfl⟩ := hv'
      have hlt : i % zeroMg.cells.size < 6 := Nat.mod_lt _ (by decide)
      generalize i % zeroMg.cells.size = r at hlt
      have : r = 0 ∨ r = 1 ∨ r = 2 ∨ r = 3 ∨ r = 4 ∨ r = 5 := by omega
      rcases this with rfl | rfl | rfl | rfl | rfl | rfl <;> rfl)
    simp only [Nat.add_zero] at hst
    have hk1 : k ≠ 0 := by omega
    cases k with
    | zero => omega
    | succ k => simp [Builtin.clear_, run_underlying Try.underlying25, hv, hst]
end Go.Proofs.Ythgdiihibjnhoaa
