/- own: messages in memory of their own. -/
import Derived.Test.YthgdiihibjnhoaaHdAt
set_option linter.unusedVariables false
set_option linter.unusedSimpArgs false
namespace Go.Proofs.Ythgdiihibjnhoaa
open Go.RowKit Go.Sort

set_option maxHeartbeats 2000000 in
set_option maxRecDepth 100000 in
theorem cloneT_some (ad : Addr) (n c : Nat) (l : List Int) (w : World) (hn : n ≤ 1048576) (hc : Lst (fun n : Int => [.int .u32 n]) 1 w (some ad) n l) :
    Calls Try.prog 22 #[.slice (some ad) n c] w fun e w' => ∃ a' dc', e = .returned (.slice a' n dc') ∧ Lst (fun n : Int => [.int .u32 n]) 1 w' a' n l ∧ (∀ x, a' = some x → w.heap.size ≤ x.block ∧ ∃ cur, w'.heap[x.block]? = some (.cells cur 27 (0, 0))) ∧ Below w.heap.size w w' := by
  obtain ⟨i0, hi, hz0, hz1, hz2⟩ := info_parts info32s
  have q : ∀ (w : World) (a : Option Addr) (n c n' c' : Nat), (binOp .eql 22 (.slice a n c) (.slice none n' c')).run Try.prog w = .ok (.bool a.isNone) w := fun w a n c n' c' => Lib.run_eql_slice_nil w _ _ a n c n' c' Try.underlying22
  have HC := Lib.hid hc
  clear hc
  go_enter Try.func22, Try.ntmps22
  go_wp2_with (at_builtin; refine wpList_append_own _ rfl _ _ 22 rfl w.heap.size 27 i0 (.int .u32 0) 1 4 Try.underlying22 hi hz0 hz1 hz2 rfl (by decide) _ _ _ rfl (World.ownsRow_made w #[] 0 (Nat.le_refl _) (Nat.zero_le _) (by simp)) ad n c (flat encW l) rfl ?qc1 ?qc2 ?qc3 ?qc4 ?qc5 ?qc6 ?_)
  case qc1 => rw [flat_length encW 1 (fun _ => rfl), HC.out.size]
  case qc2 =>
    intro j u hj
    have hj' : j < l.length * 1 := by have := (List.getElem?_eq_some_iff.1 hj).1; rwa [flat_length encW 1 (fun _ => rfl)] at this
    obtain ⟨b, o, e, R⟩ := HC.out.src (by rw [← HC.out.size]; omega)
    injection e with e
    subst e
    rw [add_lit10]
    exact cell_later ((Grw.refl w).alloc _).below (RowAt.flat (enc := encW) (fun _ => rfl) R j u hj)
  case qc3 =>
    intro u hu
    unfold flat at hu
    obtain ⟨c, hc, huc⟩ := List.mem_flatten.1 hu
    obtain ⟨m, _, rfl⟩ := List.mem_map.1 hc
    simp only [encW, List.mem_singleton] at huc
    subst huc
    rfl
  case qc4 => rw [Nat.zero_add]; unfold maxLen; omega
  case qc5 => rw [Nat.zero_add]; omega
  case qc6 => simp
  intro v' w1 hown hgrow hnil
  have hown2 := own_eq (n' := n) (xs' := flat encW l) hown (by first | rfl | omega) (by first | rfl | exact List.nil_append _)
  obtain ⟨a', dc', rfl⟩ := own_form' hown2
  have HL := Lib.hid (own_lst' (enc := encW) (fun _ => rfl) HC.out.size hown2)
  have HN : Hid (∀ x, a' = some x → w.heap.size ≤ x.block ∧ ∃ cur, w1.heap[x.block]? = some (.cells cur 27 (0, 0))) := Lib.hid fun x hx => ⟨(hown2.lt x.block (by rw [hx]; rfl)).1, by
    subst hx
    rcases hown2.2 with ⟨h1, _⟩ | ⟨g, c, cur, h1, _, h3, _⟩
    · cases h1
    · injection h1 with h1 _ _
      injection h1 with h1
      subst h1
      exact ⟨cur, h3⟩⟩
  have HB := Lib.hid (((Below.refl _ w).alloc (Nat.le_refl _) (.cells #[] 27)).grown hgrow (by simp) (by intro k hk; simp [Value.ownBlock] at hk; omega))
  clear hown hown2 hgrow hnil
  go_wp2
  go_ret
  exact ⟨a', ⟨dc', rfl⟩, HL.out, HN.out, HB.out⟩
theorem cloneT (a : Option Addr) (n c : Nat) (l : List Int) (w : World) (hn : n ≤ 1048576) (hc : Lst (fun n : Int => [.int .u32 n]) 1 w a n l) :
    Calls Try.prog 22 #[.slice a n c] w fun e w' => ∃ a' dc', e = .returned (.slice a' n dc') ∧ Lst (fun n : Int => [.int .u32 n]) 1 w' a' n l ∧ (∀ x, a' = some x → w.heap.size ≤ x.block ∧ ∃ cur, w'.heap[x.block]? = some (.cells cur 27 (0, 0))) ∧ Below w.heap.size w w' := by
  cases a with
  | some ad => exact cloneT_some ad n c l w hn hc
  | none =>
    have h0 : n = 0 := by
      rcases Nat.eq_zero_or_pos n with e | e
      · exact e
      · obtain ⟨_, _, e', _⟩ := hc.src e; cases e'
    subst h0
    refine (cloneW_nil 0 c w).mono ?_
    rintro e w' ⟨rfl, rfl⟩
    exact ⟨none, 0, rfl, hc, (fun x hx => by cases hx), Below.refl _ _⟩

/-- A row that is handed out: all of it in blocks from B on. -/
structure OutR (w : World) (B : Nat) (s : Sl) (X : List Mg) : Prop where
  slot : SlotAt w s X
  new : ∀ x, s.a = some x → B ≤ x.block
  deps : ∀ x ∈ X, DpT w (fun k => B ≤ k) x
theorem OutR.kept {w w' : World} {B : Nat} {s : Sl} {X : List Mg} (h : OutR w B s X) (hb : ∀ k, B ≤ k → k < w.heap.size → w'.heap[k]? = w.heap[k]?) : OutR w' B s X :=
  ⟨h.slot.kept fun x hx => hb _ (h.new x hx) (h.slot.lt x hx), h.new, fun x hx => (h.deps x hx).kept fun ad e => hb _ ((h.deps x hx).typ ad e).1 ((h.deps x hx).lt ad e)⟩
theorem OutR.below {w w' : World} {B : Nat} {s : Sl} {X : List Mg} (h : OutR w B s X) (hb : Below w.heap.size w w') : OutR w' B s X := h.kept fun k _ hk => hb.block k hk
theorem OutR.nil (w : World) (B : Nat) : OutR w B slNil [] := ⟨SlotAt.nil w, fun x hx => by simp [slNil] at hx, fun x hx => by simp at hx⟩
theorem OutR.base {w : World} {B C : Nat} {s : Sl} {X : List Mg} (h : OutR w B s X) (hc : C ≤ B) : OutR w C s X :=
  ⟨h.slot, fun x hx => Nat.le_trans hc (h.new x hx), fun x hx => (h.deps x hx).more fun k _ hk => Nat.le_trans hc hk⟩

/-- Amid 'own'. -/
structure OwnSt (w wr : World) (g n cap : Nat) (L : List Mg) (k : Nat) (Z : List Mg) : Prop where
  bel : Below w.heap.size w wr
  row : MRow wr g 0 n cap Z
  new : w.heap.size ≤ g
  str : Z.map strip = L.map strip
  old : ∀ i, k ≤ i → Z[i]? = L[i]?
  deps : ∀ i x, i < k → Z[i]? = some x → DpT wr (fun b => w.heap.size ≤ b) x
theorem OwnSt.start {w w1 : World} {g n cap : Nat} {L : List Mg} (hb : Below w.heap.size w w1) (hr : MRow w1 g 0 n cap L) (hg : w.heap.size ≤ g) : OwnSt w w1 g n cap L 0 L :=
  ⟨hb, hr, hg, rfl, fun _ _ => rfl, fun i x h => by omega⟩
theorem OwnSt.next {w wr w6 : World} {g n cap : Nat} {L : List Mg} {k : Nat} {Z : List Mg} {x : Mg} (h : OwnSt w wr g n cap L k Z) (hx : L[k]? = some x) (hk : k < n) (hdl : x.dl ≤ 1048576) (B6 : Below wr.heap.size wr w6) {a' : Option Addr} {dc' : Nat}
    (hl : Lst (fun n : Int => [.int .u32 n]) 1 w6 a' x.dl x.deps) (ht : ∀ y, a' = some y → wr.heap.size ≤ y.block ∧ ∃ cur, w6.heap[y.block]? = some (.cells cur 27 (0, 0))) :
    ∃ Z', OwnSt w (w6.setCell ⟨g, 0 + k * 6 + 4, none⟩ (.slice a' x.dl dc')) g n cap L (k + 1) Z' := by
  have hZ : Z[k]? = some x := by rw [h.old k (Nat.le_refl _)]; exact hx
  have R6 := h.row.below B6
  have R7 := R6.set k 4 x { x with a := a', dc := dc' } (.slice a' x.dl dc') hZ (by decide) rfl (fun d hd => by
    unfold encG
    match d with
    | 0 => rfl
    | 1 => rfl
    | 2 => rfl
    | 3 => rfl
    | 4 => omega
    | 5 => rfl
    | d + 6 => rfl)
  have hs := h.bel.size
  have hs6 := B6.size
  have hg := h.new
  obtain ⟨cur, hcur, _⟩ := R6.ex
  have hset : ∀ j, j ≠ g → (w6.setCell ⟨g, 0 + k * 6 + 4, none⟩ (.slice a' x.dl dc')).heap[j]? = w6.heap[j]? := fun j hj => heap_setCell_other w6 _ j _ hj
  refine ⟨Z.set k { x with a := a', dc := dc' }, ?_, R7, hg, ?_, fun i hi => ?_, fun i y hi hy => ?_⟩
  · exact (h.bel.trans (B6.mono hs)).setCell hg _
  · rw [← h.str, List.map_set]
    apply List.ext_getElem?
    intro i
    rw [List.getElem?_set]
    by_cases e : k = i
    · subst e
      rw [if_pos rfl, if_pos (by rw [List.length_map]; exact (List.getElem?_eq_some_iff.1 hZ).1), List.getElem?_map, hZ]
      rfl
    · rw [if_neg e]
  · rw [List.getElem?_set_ne (by omega)]
    exact h.old i (by omega)
  · by_cases e : k = i
    · subst e
      rw [List.getElem?_set_self (List.getElem?_eq_some_iff.1 hZ).1] at hy
      cases hy
      have hne : ∀ ad, a' = some ad → ad.block ≠ g := fun ad e => by
        have := (ht ad e).1
        have := h.row.lt
        omega
      refine DpT.kept (w := w6) ⟨hl, hdl, fun ad e => ⟨?_, (ht ad e).2⟩⟩ fun ad e => hset _ (hne ad e)
      have := (ht ad e).1
      show w.heap.size ≤ ad.block
      omega
    · rw [List.getElem?_set_ne e] at hy
      have h1 := (h.deps i y (by omega) hy).below B6
      exact h1.kept fun ad e => hset _ (h1.ne ad e hcur)

end Go.Proofs.Ythgdiihibjnhoaa
