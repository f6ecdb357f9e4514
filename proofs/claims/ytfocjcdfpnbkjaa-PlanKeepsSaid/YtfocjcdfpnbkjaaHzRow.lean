/- Rows of promises, anywhere in their block. -/
import Derived.Test.YtfocjcdfpnbkjaaHzMath
import Derived.Test.YtfocjcdfpnbkjaaFlat
import Derived.ArgAppend
import Derived.OwnWalk
import Derived.Deep.MidRow
import Derived.Laws.AppendOwnNone
set_option linter.unusedVariables false
set_option linter.unusedSimpArgs false
namespace Go.Proofs.Ytfocjcdfpnbkjaa
open Go.RowKit Go.Sort

def encP (x : Pm) : List Value := [.int .i64 x.frm, .int .u64 (x.st : Int), .int .u32 (x.sn : Int)]
theorem encP_length (x : Pm) : (encP x).length = 3 := rfl
theorem encP_one (x : Pm) : ∀ u ∈ encP x, u.oneCell' = true := by
  intro u hu
  simp only [encP, List.mem_cons, List.not_mem_nil, or_false] at hu
  rcases hu with rfl | rfl | rfl <;> rfl
theorem flatP_one {l : List Pm} : ∀ u ∈ flat encP l, u.oneCell' = true := by
  intro u hu
  unfold flat at hu
  obtain ⟨c, hc, huc⟩ := List.mem_flatten.1 hu
  obtain ⟨m, _, rfl⟩ := List.mem_map.1 hc
  exact encP_one m u huc
def zeroP : Value := .agg #[.int .i64 0, .int .u64 0, .int .u32 0]
theorem infoP : (Try.prog.info? 158).map (fun i => (i.zero, i.size, i.bytes)) = some (some zeroP, 3, 24) := by kernel_rfl
theorem add_lit13 (b o k : Nat) : (⟨b, o, none⟩ : Addr).add k = ⟨b, o + k, none⟩ := by cases k <;> simp [Addr.add]
theorem grown_set13 (w : World) (g j : Nat) (v : Value) : w.grownBy (w.setCell ⟨g, j, none⟩ v) (some g) :=
  ⟨rfl, rfl, rfl, by simp, fun k hk ho => heap_setCell_other w ⟨g, j, none⟩ k v (by intro e; apply ho; rw [e])⟩
/-- A slice. -/
structure ZSl where
  a : Option Addr
  n : Nat
  c : Nat
  deriving Inhabited
def ZSl.v (s : ZSl) : Value := .slice s.a s.n s.c
def zslNil : ZSl := ⟨none, 0, 0⟩
/-- A row of messages in the block b, from the cell 'off' on. -/
structure ZRow (w : World) (b off n cap : Nat) (X : List Pm) : Prop where
  ex : ∃ cur : Array Value, w.heap[b]? = some (.cells cur 158 (0, 0)) ∧ off + cap * 3 ≤ cur.size ∧ ∀ j u, (flat encP X)[j]? = some u → cur[off + j]? = some u
  len : X.length = n
  le : n ≤ cap
  max : cap ≤ maxLen
section
variable {w : World} {b off n cap : Nat} {X : List Pm}
theorem ZRow.lt (h : ZRow w b off n cap X) : b < w.heap.size := by
  obtain ⟨cur, h1, _⟩ := h.ex
  exact (Array.getElem?_eq_some_iff.1 h1).1
theorem ZRow.kept {w' : World} (h : ZRow w b off n cap X) (hb : w'.heap[b]? = w.heap[b]?) : ZRow w' b off n cap X := by
  obtain ⟨cur, h1, h2⟩ := h.ex
  exact ⟨⟨cur, hb.trans h1, h2⟩, h.len, h.le, h.max⟩
theorem ZRow.below {w' : World} (h : ZRow w b off n cap X) (hb : Below w.heap.size w w') : ZRow w' b off n cap X := h.kept (hb.block b h.lt)
theorem ZRow.cell (h : ZRow w b off n cap X) (j : Nat) (u : Value) (hu : (flat encP X)[j]? = some u) : w.cell? ⟨b, off + j, none⟩ = some u := by
  obtain ⟨cur, h1, _, h3⟩ := h.ex
  rw [cell_of_row _ _ _ _ _ _ h1]
  exact h3 j u hu
theorem ZRow.free (h : ZRow w b off n cap X) (j : Nat) : w.frozen? ⟨b, j, none⟩ = false := by
  obtain ⟨cur, h1, _⟩ := h.ex
  exact frozen_of_row w b j cur _ h1
theorem ZRow.there (h : ZRow w b off n cap X) (j : Nat) (hj : j < cap * 3) : (w.cell? ⟨b, off + j, none⟩).isSome = true := by
  obtain ⟨cur, h1, h2, _⟩ := h.ex
  rw [cell_of_row _ _ _ _ _ _ h1, Array.getElem?_eq_getElem (by omega)]
  rfl
theorem ZRow.lst (h : ZRow w b off n cap X) : Lst encP 3 w (some ⟨b, off, none⟩) n X := by
  refine ⟨h.len, fun h0 => ⟨b, off, rfl, fun i x hx c v hv => ?_⟩⟩
  have hc : c < 3 := by have := (List.getElem?_eq_some_iff.1 hv).1; rwa [encP_length] at this
  rw [Nat.add_assoc]
  exact h.cell _ _ (by rw [flat_at encP 3 encP_length X i x hx c hc]; exact hv)
theorem ZRow.take (h : ZRow w b off n cap X) (k : Nat) (hk : k ≤ n) : ZRow w b off k cap (X.take k) := by
  obtain ⟨cur, h1, h2, h3⟩ := h.ex
  refine ⟨⟨cur, h1, h2, fun j u hu => h3 j u ?_⟩, by rw [List.length_take, h.len]; omega, by have := h.le; omega, h.max⟩
  have e : flat encP X = flat encP (X.take k) ++ flat encP (X.drop k) := by rw [← flat_append, List.take_append_drop]
  rw [e, List.getElem?_append_left (List.getElem?_eq_some_iff.1 hu).1]
  exact hu
theorem flat_dropZ (X : List Pm) (k j : Nat) (hk : k ≤ X.length) : (flat encP (X.drop k))[j]? = (flat encP X)[k * 3 + j]? := by
  have e : flat encP X = flat encP (X.take k) ++ flat encP (X.drop k) := by rw [← flat_append, List.take_append_drop]
  have hl : (flat encP (X.take k)).length = k * 3 := by rw [flat_length encP 3 encP_length, List.length_take, Nat.min_eq_left hk]
  rw [e, List.getElem?_append_right (by omega), hl, Nat.add_sub_cancel_left]
theorem ZRow.drop (h : ZRow w b off n cap X) (k : Nat) (hk : k ≤ n) : ZRow w b (off + k * 3) (n - k) (cap - k) (X.drop k) := by
  obtain ⟨cur, h1, h2, h3⟩ := h.ex
  have hle := h.le
  have hmx := h.max
  have hc : k * 3 + (cap - k) * 3 = cap * 3 := by rw [← Nat.add_mul]; congr 1; omega
  refine ⟨⟨cur, h1, by omega, fun j u hu => ?_⟩, by rw [List.length_drop, h.len], by omega, by omega⟩
  rw [flat_dropZ X k j (by rw [h.len]; exact hk)] at hu
  rw [Nat.add_assoc]
  exact h3 _ u hu
/-- An empty row at the same block. -/
theorem ZRow.none (h : ZRow w b off n cap X) : ZRow w b off 0 0 [] := by
  obtain ⟨cur, h1, h2, h3⟩ := h.ex
  exact ⟨⟨cur, h1, by omega, fun j u hu => by simp [flat] at hu⟩, rfl, Nat.le_refl _, Nat.zero_le _⟩
theorem ZRow.of_own {base : Nat} (h : w.ownsRow base 158 3 (.slice (some ⟨b, 0, Option.none⟩) n cap) n (flat encP X)) (hl : X.length = n) : ZRow w b 0 n cap X := by
  rcases h.2 with ⟨h1, _⟩ | ⟨g, c, cur, h1, _, h3, h4, h5, h6, h7⟩
  · cases h1
  · injection h1 with e1 e2 e3
    injection e1 with e1
    injection e1 with e1
    subst e1 e3
    refine ⟨⟨cur, h3, by omega, fun j u hu => ?_⟩, hl, h4, h5⟩
    rw [Nat.zero_add, ← Array.getElem?_toList]
    rw [← h7, List.getElem?_take] at hu
    split at hu
    · exact hu
    · cases hu
/-- Cells of the block written elsewhere than where the row lies. -/
theorem ZRow.cells (h : ZRow w b off n cap X) (o : Nat) (vs : List Value) (ho : o + vs.length ≤ off + cap * 3) (hap : o + vs.length ≤ off ∨ off + n * 3 ≤ o) : ZRow (w.setCells b o vs) b off n cap X := by
  obtain ⟨cur, h1, h2, h3⟩ := h.ex
  obtain ⟨cur', k1, k2⟩ := heap_setCells vs o w cur h1 (by omega)
  have hs : cur'.size = cur.size := by
    have := congrArg List.length k2
    simp only [List.length_append, List.length_take, List.length_drop, Array.length_toList] at this
    omega
  refine ⟨⟨cur', k1, by omega, fun j u hu => ?_⟩, h.len, h.le, h.max⟩
  have hj : j < n * 3 := by have := (List.getElem?_eq_some_iff.1 hu).1; rwa [flat_length encP 3 encP_length, h.len] at this
  rw [← Array.getElem?_toList, k2]
  have h4 := h3 j u hu
  have hjs : off + j < cur.size := (Array.getElem?_eq_some_iff.1 h4).1
  rw [← Array.getElem?_toList] at h4
  rcases hap with ha | ha
  · rw [List.getElem?_append_right (by simp only [List.length_append, List.length_take, Array.length_toList]; omega), List.getElem?_drop]
    simp only [List.length_append, List.length_take, Array.length_toList]
    rw [show o + vs.length + (off + j - (min o cur.size + vs.length)) = off + j by omega]
    exact h4
  · rw [List.append_assoc, List.getElem?_append_left (by simp only [List.length_take, Array.length_toList]; omega), List.getElem?_take, if_pos (by omega)]
    exact h4
/-- The row with some behind it, written into its room. -/
theorem ZRow.more (h : ZRow w b off n cap X) (L : List Pm) (hr : n + L.length ≤ cap) : ZRow (w.setCells b (off + n * 3) (flat encP L)) b off (n + L.length) cap (X ++ L) := by
  have hfl := flat_length encP 3 encP_length L
  have hfx := flat_length encP 3 encP_length X
  have hc : n * 3 + L.length * 3 ≤ cap * 3 := by rw [← Nat.add_mul]; exact Nat.mul_le_mul_right _ hr
  have h0 := h.cells (off + n * 3) (flat encP L) (by omega) (.inr (Nat.le_refl _))
  obtain ⟨cur, h1, h2, h3⟩ := h.ex
  obtain ⟨cur', k1, k2⟩ := heap_setCells (flat encP L) (off + n * 3) w cur h1 (by omega)
  have hs : cur'.size = cur.size := by
    have := congrArg List.length k2
    simp only [List.length_append, List.length_take, List.length_drop, Array.length_toList] at this
    omega
  refine ⟨⟨cur', k1, by omega, fun j u hu => ?_⟩, by rw [List.length_append, h.len], hr, h.max⟩
  rw [flat_append] at hu
  by_cases hj : j < n * 3
  · rw [List.getElem?_append_left (by rw [hfx, h.len]; exact hj)] at hu
    obtain ⟨cur2, q1, _, q3⟩ := h0.ex
    rw [k1] at q1
    cases q1
    exact q3 j u hu
  · rw [List.getElem?_append_right (by rw [hfx, h.len]; omega), hfx, h.len] at hu
    have hj2 := (List.getElem?_eq_some_iff.1 hu).1
    rw [← Array.getElem?_toList, k2, List.append_assoc, List.getElem?_append_right (by simp only [List.length_take, Array.length_toList]; omega), List.getElem?_append_left (by simp only [List.length_take, Array.length_toList]; omega)]
    simp only [List.length_take, Array.length_toList]
    rw [show off + j - min (off + n * 3) cur.size = j - n * 3 by omega]
    exact hu
/-- One cell of one of them is another one. -/
theorem ZRow.set (h : ZRow w b off n cap X) (i c : Nat) (x y : Pm) (v : Value) (hx : X[i]? = some x) (hc : c < 3) (hv : (encP y)[c]? = some v) (hk : ∀ d, d ≠ c → (encP y)[d]? = (encP x)[d]?) : ZRow (w.setCell ⟨b, off + i * 3 + c, Option.none⟩ v) b off n cap (X.set i y) := by
  obtain ⟨cur, h1, h2, h3⟩ := h.ex
  have hi := (List.getElem?_eq_some_iff.1 hx).1
  have k1 := heap_setCell_same w b (off + i * 3 + c) cur _ v h1
  have hin : off + i * 3 + c < cur.size := by
    have := h3 (i * 3 + c) ((encP x)[c]?.getD (Value.bool true)) (by
      rw [flat_at encP 3 encP_length X i x hx c hc]
      rw [List.getElem?_eq_getElem (by rw [encP_length]; exact hc)]; rfl)
    have := (Array.getElem?_eq_some_iff.1 this).1
    omega
  refine ⟨⟨_, k1, by simpa using h2, fun j u hu => ?_⟩, by rw [List.length_set]; exact h.len, h.le, h.max⟩
  obtain ⟨i', x', c', hx', hc', hlt', rfl⟩ := flat_split encP 3 encP_length _ j u hu
  rw [Array.getElem?_setIfInBounds]
  rw [List.getElem?_set] at hx'
  by_cases he : i = i'
  · subst he
    rw [if_pos rfl, if_pos hi] at hx'
    cases hx'
    by_cases hcc : c = c'
    · subst hcc
      rw [if_pos (by omega), if_pos (by omega)]
      exact hv.symm.trans hc'
    · rw [if_neg (by omega)]
      refine h3 _ u ?_
      rw [flat_at encP 3 encP_length X i x hx c' hlt', ← hk c' (fun e => hcc e.symm)]
      exact hc'
  · rw [if_neg he] at hx'
    rw [if_neg (by omega)]
    refine h3 _ u ?_
    rw [flat_at encP 3 encP_length X i' x' hx' c' hlt']
    exact hc'
end

/-- One of them is another one. -/
theorem ZRow.put {w : World} {b off n cap : Nat} {X : List Pm} (h : ZRow w b off n cap X) (i : Nat) (x y : Pm) (hx : X[i]? = some x) : ZRow (w.setCells b (off + i * 3) (encP y)) b off n cap (X.set i y) := by
  have h1 := h.set i 0 x ⟨y.frm, x.st, x.sn⟩ (.int .i64 y.frm) hx (by decide) rfl (by intro d hd; match d, hd with | 0, hd => exact absurd rfl hd | 1, _ => rfl | 2, _ => rfl | d + 3, _ => rfl)
  have hi : i < X.length := (List.getElem?_eq_some_iff.1 hx).1
  have e1 : (X.set i ⟨y.frm, x.st, x.sn⟩)[i]? = some ⟨y.frm, x.st, x.sn⟩ := by rw [List.getElem?_set]; simp [hi]
  have h2 := h1.set i 1 _ ⟨y.frm, y.st, x.sn⟩ (.int .u64 (y.st : Int)) e1 (by decide) rfl (by intro d hd; match d, hd with | 1, hd => exact absurd rfl hd | 0, _ => rfl | 2, _ => rfl | d + 3, _ => rfl)
  rw [List.set_set] at h2
  have e2 : (X.set i ⟨y.frm, y.st, x.sn⟩)[i]? = some ⟨y.frm, y.st, x.sn⟩ := by rw [List.getElem?_set]; simp [hi]
  have h3 := h2.set i 2 _ y (.int .u32 (y.sn : Int)) e2 (by decide) rfl (by intro d hd; match d, hd with | 2, hd => exact absurd rfl hd | 0, _ => rfl | 1, _ => rfl | d + 3, _ => rfl)
  rw [List.set_set] at h3
  exact h3

/-- A slice of messages of which nobody else has the block. -/
def ZSlot (w : World) (s : ZSl) (X : List Pm) : Prop := (s = zslNil ∧ X = []) ∨ ∃ b, s.a = some ⟨b, 0, none⟩ ∧ ZRow w b 0 s.n s.c X
theorem ZSlot.nil (w : World) : ZSlot w zslNil [] := .inl ⟨rfl, rfl⟩
theorem ZSlot.len {w : World} {s : ZSl} {X : List Pm} (h : ZSlot w s X) : X.length = s.n := by
  rcases h with ⟨rfl, rfl⟩ | ⟨b, _, h⟩
  · rfl
  · exact h.len
theorem ZSlot.le {w : World} {s : ZSl} {X : List Pm} (h : ZSlot w s X) : s.n ≤ s.c := by
  rcases h with ⟨rfl, rfl⟩ | ⟨b, _, h⟩
  · exact Nat.le_refl _
  · exact h.le
theorem ZSlot.cap0 {w : World} {s : ZSl} {X : List Pm} (h : ZSlot w s X) : s.a = none → s.c = 0 := by
  intro e
  rcases h with ⟨rfl, rfl⟩ | ⟨b, e2, h⟩
  · rfl
  · rw [e] at e2; cases e2
theorem ZSlot.lst {w : World} {s : ZSl} {X : List Pm} (h : ZSlot w s X) : Lst encP 3 w s.a s.n X := by
  rcases h with ⟨rfl, rfl⟩ | ⟨b, e, h⟩
  · exact ⟨rfl, fun h0 => by simp [zslNil] at h0⟩
  · rw [e]; exact h.lst
theorem ZSlot.lt {w : World} {s : ZSl} {X : List Pm} (h : ZSlot w s X) (x : Addr) (hx : s.a = some x) : x.block < w.heap.size := by
  rcases h with ⟨rfl, rfl⟩ | ⟨b, e, h⟩
  · cases hx
  · rw [e] at hx; cases hx; exact h.lt
theorem ZSlot.typ {w : World} {s : ZSl} {X : List Pm} (h : ZSlot w s X) (x : Addr) (hx : s.a = some x) : ∃ cur, w.heap[x.block]? = some (.cells cur 158 (0, 0)) := by
  rcases h with ⟨rfl, rfl⟩ | ⟨b, e, h⟩
  · cases hx
  · rw [e] at hx; cases hx; obtain ⟨cur, h1, _⟩ := h.ex; exact ⟨cur, h1⟩
theorem ZSlot.kept {w w' : World} {s : ZSl} {X : List Pm} (h : ZSlot w s X) (hb : ∀ x, s.a = some x → w'.heap[x.block]? = w.heap[x.block]?) : ZSlot w' s X := by
  rcases h with h | ⟨b, e, h⟩
  · exact .inl h
  · exact .inr ⟨b, e, h.kept (hb _ e)⟩
theorem ZSlot.below {w w' : World} {s : ZSl} {X : List Pm} (h : ZSlot w s X) (hb : Below w.heap.size w w') : ZSlot w' s X := h.kept fun x hx => hb.block _ (h.lt x hx)
theorem ZSlot.max {w : World} {s : ZSl} {X : List Pm} (h : ZSlot w s X) : s.c ≤ maxLen := by
  rcases h with ⟨rfl, rfl⟩ | ⟨b, e, h⟩
  · exact Nat.zero_le _
  · exact h.max
theorem flatP_one13 {l : List Pm} : ∀ u ∈ flat encP l, u.oneCell' = true := flatP_one
theorem grownCells13 (b : Nat) : ∀ (vs : List Value) (o : Nat) (w : World), w.grownBy (w.setCells b o vs) (some b)
  | [], o, w => World.grownBy.refl w _
  | v :: r, o, w => by
    have h1 := grown_set13 w b o v
    have h2 := grownCells13 b r (o + 1) (w.setCell ⟨b, o, none⟩ v)
    exact ⟨h2.os.trans h1.os, h2.tape.trans h1.tape, h2.output.trans h1.output, Nat.le_trans h1.size h2.size, fun i hi hn => (h2.block i (Nat.lt_of_lt_of_le hi h1.size) hn).trans (h1.block i hi hn)⟩
/-- 'append' of some messages onto such a slice. -/
theorem run_append_z {w : World} {s : ZSl} {X : List Pm} (h : ZSlot w s X) (ty : TypeId) (ad : Addr) (m c : Nat) (L : List Pm) (hl : Lst encP 3 w (some ad) m L) (hm : 0 < m) (hn : s.n + m ≤ 200000) :
    ∃ s' w', (Builtin.append_ #[144, 144] ty #[s.v, .slice (some ad) m c]).run Try.prog w = .ok s'.v w' ∧ ZSlot w' s' (X ++ L) ∧ s'.n = s.n + m ∧ w.grownBy w' s.v.ownBlock ∧
      (∃ x, s'.a = some x ∧ ((∃ y, s.a = some y ∧ y.block = x.block) ∨ w.heap.size ≤ x.block)) := by
  obtain ⟨i0, hi, hz0, hz1, hz2⟩ := info_parts infoP
  have ht := Try.underlying144
  have hfl : (flat encP L).length = m * 3 := by rw [flat_length encP 3 encP_length, hl.size]
  have hnews : ∀ j u, (flat encP L)[j]? = some u → w.cell? (ad.add j) = some u := fun j u hu => by
    obtain ⟨b, o', e', R⟩ := hl.src hm
    cases e'
    rw [add_lit13]
    exact R.flat encP_length j u hu
  rcases h with ⟨rfl, rfl⟩ | ⟨b, e, h⟩
  · obtain ⟨v', w', hr, h2, h3, _⟩ := run_append_own (P := Try.prog) w w.heap.size 144 ty 158 i0 zeroP 3 24 ht hi hz0 hz1 hz2 rfl (by decide) (.slice none 0 0) 0 [] (World.ownsRow_nil w _ _ _) ad m c (flat encP L) hfl hnews flatP_one (by unfold maxLen; simp [zslNil] at hn; omega) (by simp [zslNil] at hn; omega) (Nat.le_refl _)
    rw [List.nil_append] at h2 ⊢
    rcases h2.2 with ⟨_, h0⟩ | ⟨g, cap, cur, rfl, hb, _⟩
    · omega
    · refine ⟨⟨some ⟨g, 0, none⟩, 0 + m, cap⟩, w', hr, .inr ⟨g, rfl, ?_⟩, rfl, h3, ⟨_, rfl, .inr hb⟩⟩
      exact ZRow.of_own h2 (by rw [hl.size, Nat.zero_add])
  · obtain ⟨sa, sn, sc⟩ := s
    simp only at e h hn ⊢
    subst e
    by_cases hroom : sn + m ≤ sc
    · have hc : sn * 3 + m * 3 ≤ sc * 3 := by rw [← Nat.add_mul]; exact Nat.mul_le_mul_right _ hroom
      have hr := run_append_room_cells (P := Try.prog) w 144 ty 158 i0 ht hi b 0 sn sc ad m c (flat encP L) (by rw [hfl, hz1]) hnews flatP_one hroom (fun j hj => by rw [hz1, Nat.add_assoc]; exact h.there _ (by omega)) (fun j hj => h.free _)
      rw [hz1] at hr
      have := h.more L (by rw [hl.size]; exact hroom)
      rw [hl.size] at this
      exact ⟨⟨some ⟨b, 0, none⟩, sn + m, sc⟩, _, hr, .inr ⟨b, rfl, this⟩, rfl, grownCells13 b _ _ w, ⟨_, rfl, .inl ⟨_, rfl, rfl⟩⟩⟩
    · obtain ⟨v', w', hr, h2, h3⟩ := run_append_arg_grows (P := Try.prog) w 144 ty 158 i0 zeroP 3 24 ht hi hz0 hz1 hz2 rfl (by decide) ⟨b, 0, none⟩ sn sc (flat encP X) (by rw [flat_length encP 3 encP_length, h.len]) (fun j u hu => by rw [add_lit13]; exact h.cell j u hu) ad m c (flat encP L) hfl hnews (by omega) (by unfold maxLen; omega) (by omega)
      rw [← flat_append] at h2
      rcases h2.2 with ⟨_, h0⟩ | ⟨g, cap, cur, rfl, hb, _⟩
      · omega
      · refine ⟨⟨some ⟨g, 0, none⟩, sn + m, cap⟩, w', hr, .inr ⟨g, rfl, ?_⟩, rfl, ⟨h3.os, h3.tape, h3.output, h3.size, fun k hk _ => h3.block k hk (by simp)⟩, ⟨_, rfl, .inr hb⟩⟩
        exact ZRow.of_own h2 (by rw [List.length_append, hl.size, h.len])
/-- The same at the operation. -/
theorem wp_append_z {w : World} {o : Oper} {a : Act} {K : Act → World → Prop} {Q : Exit → Act → World → Prop} (sx x : Operand)
    (ho : o.op = .call { callee := .builtin .append, args := #[sx, x], argTypes := #[144, 144] })
    (s : ZSl) (X : List Pm) (hs : a.eval sx = s.v) (h : ZSlot w s X) (ad : Addr) (m c : Nat) (L : List Pm) (hx : a.eval x = .slice (some ad) m c) (hl : Lst encP 3 w (some ad) m L) (hm : 0 < m) (hn : s.n + m ≤ 200000)
    (hK : ∀ s' w', ZSlot w' s' (X ++ L) → s'.n = s.n + m → w.grownBy w' s.v.ownBlock → (∃ x, s'.a = some x ∧ ((∃ y, s.a = some y ∧ y.block = x.block) ∨ w.heap.size ≤ x.block)) → K (a.put o.dst s'.v) w') : o.wp Try.prog a w K Q := by
  obtain ⟨s', w', hr, h2, h3, h4, h5⟩ := run_append_z h o.type ad m c L hl hm hn
  unfold Oper.wp execOp
  simp only [ho, resolve, invoke, builtin, Sem.run_bind, Sem.run_pure, Result.andThen_ok, List.map_toArray, List.map_cons, List.map_nil, hs, hx, hr]
  exact hK s' w' h2 h3 h4 h5
theorem wpList_append_z {w : World} {ops : Array Oper} {rest : List Oper} {o : Oper} {a : Act} {Q : Exit → Act → World → Prop} (hgd : o.guard = none) (sx x : Operand)
    (ho : o.op = .call { callee := .builtin .append, args := #[sx, x], argTypes := #[144, 144] })
    (s : ZSl) (X : List Pm) (hs : a.eval sx = s.v) (h : ZSlot w s X) (ad : Addr) (m c : Nat) (L : List Pm) (hx : a.eval x = .slice (some ad) m c) (hl : Lst encP 3 w (some ad) m L) (hm : 0 < m) (hn : s.n + m ≤ 200000)
    (hK : ∀ s' w', ZSlot w' s' (X ++ L) → s'.n = s.n + m → w.grownBy w' s.v.ownBlock → (∃ x, s'.a = some x ∧ ((∃ y, s.a = some y ∧ y.block = x.block) ∨ w.heap.size ≤ x.block)) → wpList Try.prog ops Q rest (a.put o.dst s'.v) w') : wpList Try.prog ops Q (o :: rest) a w :=
  wpList_plain hgd fun K hK' => wp_append_z sx x ho s X hs h ad m c L hx hl hm hn fun s' w' h2 h3 h4 h5 => hK' _ _ (hK s' w' h2 h3 h4 h5)
/-- 'clear' of the first k of a row. -/
theorem run_clear_z {w : World} {b off n cap : Nat} {X : List Pm} (h : ZRow w b off n cap X) (k c : Nat) (hk : k ≤ n) :
    ∃ vs : List Value, vs.length = k * 3 ∧ ∀ ty : TypeId, (Builtin.clear_ #[144] ty #[.slice (some ⟨b, off, none⟩) k c]).run Try.prog w = .ok (.tuple #[]) (w.setCells b off vs) := by
  have hv : ∀ w, (zeroValue 158).run Try.prog w = .ok zeroP w := fun w => by kernel_rfl
  have hle := h.le
  rcases Nat.eq_zero_or_pos k with rfl | hk0
  · refine ⟨[], rfl, fun ty => ?_⟩
    simp [Builtin.clear_, run_underlying Try.underlying144]
    rfl
  · refine ⟨(Builtin.zeroCells zeroP.cells k).toList, by simp [size_zeroCells]; rfl, fun ty => ?_⟩
    have hlen : (Builtin.zeroCells zeroP.cells k).toList.length = k * 3 := by simp [size_zeroCells]; rfl
    have hkc : k * 3 ≤ cap * 3 := Nat.mul_le_mul_right _ (by omega)
    have hst := run_storeCells_cells (P := Try.prog) b off (Builtin.zeroCells zeroP.cells k).toList 0 w (fun j hj => by rw [Nat.add_zero]; exact h.there j (by omega)) (fun j hj => h.free _) (fun v hv' => by
      simp only [Builtin.zeroCells, Array.toList_map, List.mem_map] at hv'
      obtain ⟨i, _, rfl⟩ := hv'
      have hlt : i % zeroP.cells.size < 3 := Nat.mod_lt _ (by decide)
      generalize i % zeroP.cells.size = r at hlt
      have : r = 0 ∨ r = 1 ∨ r = 2 := by omega
      rcases this with rfl | rfl | rfl <;> rfl)
    simp only [Nat.add_zero] at hst
    have hk1 : k ≠ 0 := by omega
    cases k with
    | zero => omega
    | succ k => simp [Builtin.clear_, run_underlying Try.underlying144, hv, hst]
end Go.Proofs.Ytfocjcdfpnbkjaa
