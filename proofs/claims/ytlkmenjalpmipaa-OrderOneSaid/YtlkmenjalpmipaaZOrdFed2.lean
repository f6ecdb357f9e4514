/- fed: what stands amid its loops. -/
import Derived.Test.YtlkmenjalpmipaaZOrdFedGive
set_option linter.unusedVariables false
set_option maxRecDepth 100000
set_option linter.unusedSimpArgs false
namespace Go.Proofs.Ytlkmenjalpmipaa
open Go.RowKit Go.Sort Go.Shelf

theorem w0123 : (ofl [0, 1, 2, 3] : Nat) = 15 := by decide +kernel
theorem bit15 (p : Nat) : (15 : Nat).testBit p = decide (p < 4) := by
  rw [show (15 : Nat) = 2 ^ 4 - 1 by decide, Nat.testBit_two_pow_sub_one]
theorem InI.four14 (w : World) : InI (w.alloc (.cells #[.int .i64 0, .int .i64 1, .int .i64 2, .int .i64 3] 3)) (some ⟨w.heap.size, 0, none⟩) 4 [0, 1, 2, 3] := ⟨rfl, fun j v hj => ⟨_, rfl, by
    match j with
    | 0 => simp at hj; subst hj; simp [Addr.add]
    | 1 => simp at hj; subst hj; simp [Addr.add]
    | 2 => simp at hj; subst hj; simp [Addr.add]
    | 3 => simp at hj; subst hj; simp [Addr.add]
    | j + 4 => simp at hj⟩, fun v hv => by simp at hv; rcases hv with rfl | rfl | rfl | rfl <;> omega⟩
/-- Nothing came yet. -/
theorem fed_new {A Z : List Mg} {me : Nat} (hP : ∀ x ∈ A, 0 < x.s) (m4 : 4 ≤ me) (m64 : me < 64) : Fed1 A Z me (fun _ => 0) 0 (newO (me : Int) 15) := by
  refine ⟨⟨newO_ok _ _ (by omega) (by omega), rfl, fun p hp => ?_, fun p hp => ?_, fun p _ => rfl, fun p _ => by rw [List.take_zero]; rfl, fun p _ _ => rfl, fun p _ => by rw [List.take_zero]; rfl, fun p _ => Nat.zero_le _, fun p _ x hx => ?_⟩, rfl, fun q _ => rfl⟩
  · show (any 15 (onl (me : Int))).testBit p = true ↔ _
    unfold any
    rw [num_bit, onl_bit _ _ hp, bit15]
    simp [hp]
    omega
  · show (but (any 15 (onl (me : Int))) (onl (me : Int))).testBit p = true ↔ _
    unfold but any
    rw [num_bit, num_bit, onl_bit _ _ hp, bit15]
    simp [hp]
    omega
  · exact hP x (sub_mem.1 (List.mem_of_mem_drop hx)).1
section
variable {A Z : List Mg} {at_ : Nat → Nat} {i p : Nat}
/-- Amid a round over the senders: those below p were given i + 1, all were given i. -/
structure Gvn (A : List Mg) (at_ : Nat → Nat) (i p : Nat) : Prop where
  lo : ∀ q, q < p → q < 4 → i + 1 ≤ at_ q ∨ (sub A q).length ≤ at_ q
  all : ∀ q, q < 4 → i ≤ at_ q ∨ (sub A q).length ≤ at_ q
theorem Gvn.start (at_ : Nat → Nat) : Gvn A at_ 0 0 := ⟨fun q h => absurd h (Nat.not_lt_zero _), fun q _ => .inl (Nat.zero_le _)⟩
theorem Gvn.step (h : Gvn A at_ i p) (hp : p < 4) : Gvn A (updF at_ p (gv A p (at_ p))) i (p + 1) := by
  have h1 := gv_ge (h.all p hp)
  refine ⟨fun q hq h4 => ?_, fun q h4 => ?_⟩
  · by_cases e : q = p
    · subst e; rw [updF_same]; exact h1
    · rw [updF_other _ _ _ _ e]; exact h.lo q (by omega) h4
  · by_cases e : q = p
    · subst e; rw [updF_same]; omega
    · rw [updF_other _ _ _ _ e]; exact h.all q h4
theorem Gvn.next (h : Gvn A at_ i 4) : Gvn A at_ (i + 1) 0 := ⟨fun q hq => absurd hq (Nat.not_lt_zero _), fun q h4 => h.lo q h4 h4⟩
theorem Gvn.done (h : Gvn A at_ A.length 0) (hle : ∀ q, q < 4 → at_ q ≤ (sub A q).length) : ∀ q, q < 4 → at_ q = (sub A q).length := fun q h4 => gv_all (Nat.le_refl _) (hle q h4) (h.all q h4)
/-- The greatest stamp of the first i. -/
structure Tps (A : List Mg) (i L : Nat) : Prop where
  all : ∀ x ∈ A.take i, x.s ≤ (L : Int)
  lt : L < 18446744073709551616
theorem Tps.start : Tps A 0 1 := ⟨(fun x hx => by rw [List.take_zero] at hx; cases hx), by decide⟩
theorem Tps.step {L : Nat} {x : Mg} (h : Tps A i L) (hA : Hon A) (hx : A[i]? = some x) {M : Nat} (hM : (M : Int) = max (L : Int) x.s) : Tps A (i + 1) M := by
  have hm := List.mem_of_getElem? hx
  have h1 := hA.s1 x hm
  have h2 := h.lt
  refine ⟨fun y hy => ?_, by omega⟩
  rw [List.take_add_one, hx] at hy
  rcases List.mem_append.1 hy with hy | hy
  · have := h.all y hy; omega
  · have e : y = x := by simpa using hy
    rw [e]; omega
end
/-- Amid fed: what was given so far, what came of it. -/
structure FdW (w wr : World) (g N : Nat) (ga ab ob xb : Nat) (aa : Option Addr) (n ac : Nat) (A Z : List Mg) (me : Nat) (at_ : Nat → Nat) : Prop where
  ex : ∃ E O s X k, GvF w wr E g N O ga ab ob xb aa n ac A at_ s X ∧ Fed1 A Z me at_ k O ∧ X.map strip = Z.take k
/-- Amid fed: all were given, those below p promised. -/
structure FdP (w wr : World) (g N : Nat) (ga ab ob xb : Nat) (aa : Option Addr) (n ac : Nat) (A Z : List Mg) (me : Nat) (L p : Nat) : Prop where
  ex : ∃ E O s X k at_, GvF w wr E g N O ga ab ob xb aa n ac A at_ s X ∧ Fed2 A Z me k L p O ∧ X.map strip = Z.take k ∧ ∀ q, q < 4 → at_ q = (sub A q).length
section
variable {w wr w' : World} {g N : Nat} {ga ab ob xb : Nat} {aa : Option Addr} {n ac : Nat} {A Z : List Mg} {me : Nat} {at_ : Nat → Nat} {L p : Nat}
theorem FdW.give (h : FdW w wr g N ga ab ob xb aa n ac A Z me at_) (hA : Hon A) (hD : ∀ x ∈ A, x.dl = 0 ∧ x.deps = []) (hZ : IsSrt Mg.key A Z) (m4 : 4 ≤ me) (hN : N ≤ 999) (p : Nat) (hp : p < 4) :
    Calls Try.prog 51 #[.int .i64 (p : Int), .pointer (some ⟨ga, 0, none⟩), .pointer (some ⟨ab, 0, none⟩), .pointer (some ⟨ob, 0, none⟩), .pointer (some ⟨xb, 0, none⟩)] wr fun e w' => e = .returned (.tuple #[]) ∧ FdW w w' g (N + 1) ga ab ob xb aa n ac A Z me (updF at_ p (gv A p (at_ p))) := by
  obtain ⟨E, O, s, X, k, h1, h2, h3⟩ := h.ex
  refine (ogive h1 h2 h3 hA hD hZ m4 hN p hp).mono fun e w' hs => ⟨hs.ans, ?_⟩
  obtain ⟨E', P, t, Y, k', q1, q2, q3⟩ := hs.ex
  exact ⟨E', P, t, Y, k', q1, q2, q3⟩
theorem FdW.later (h : FdW w wr g N ga ab ob xb aa n ac A Z me at_) (hb : Below wr.heap.size wr w') : FdW w w' g N ga ab ob xb aa n ac A Z me at_ := by
  obtain ⟨E, O, s, X, k, h1, h2, h3⟩ := h.ex
  exact ⟨E, O, s, X, k, h1.later hb, h2, h3⟩
theorem FdW.bel (h : FdW w wr g N ga ab ob xb aa n ac A Z me at_) : Below w.heap.size w wr := by
  obtain ⟨E, O, s, X, k, h1, h2, h3⟩ := h.ex
  exact h1.bel
theorem FdW.oa (h : FdW w wr g N ga ab ob xb aa n ac A Z me at_) : Own wr ga 29 #[.slice aa n ac] := by
  obtain ⟨E, O, s, X, k, h1, h2, h3⟩ := h.ex
  exact h1.oa
theorem FdW.le (h : FdW w wr g N ga ab ob xb aa n ac A Z me at_) : ∀ q, q < 4 → at_ q ≤ (sub A q).length := by
  obtain ⟨E, O, s, X, k, h1, h2, h3⟩ := h.ex
  exact h2.fed.le
theorem FdW.all (h : FdW w wr g N ga ab ob xb aa n ac A Z me at_) (hat : ∀ q, q < 4 → at_ q = (sub A q).length) (L : Nat) : FdP w wr g N ga ab ob xb aa n ac A Z me L 0 := by
  obtain ⟨E, O, s, X, k, h1, h2, h3⟩ := h.ex
  exact ⟨E, O, s, X, k, at_, h1, h2.all hat L, h3, hat⟩
theorem FdP.later (h : FdP w wr g N ga ab ob xb aa n ac A Z me L p) (hb : Below wr.heap.size wr w') : FdP w w' g N ga ab ob xb aa n ac A Z me L p := by
  obtain ⟨E, O, s, X, k, at_, h1, h2, h3, h4⟩ := h.ex
  exact ⟨E, O, s, X, k, at_, h1.later hb, h2, h3, h4⟩
/-- What fed answers. -/
def FedSaid (w : World) (Z : List Mg) (fin : Bool) (e : Ending) (w' : World) : Prop :=
  ∃ a n c X E k, e = .returned (.slice a n c) ∧ RowO E w.heap.size w' (.slice a n c) n X ∧ X.map strip = Z.take k ∧ (fin = true → X.map strip = Z) ∧ Below w.heap.size w w'
/-- Drain answered, whatever the order. -/
theorem GvF.drain0 {E : Nat → Prop} {O : Od} {s : Sl} {X : List Mg} (h : GvF w wr E g N O ga ab ob xb aa n ac A at_ s X) (hs0 : s.n ≤ 100000) (hN : N ≤ 1000) {e : Ending} (hs : DrainSaid wr E g N O e w') :
    ∃ a m c Y P, e = .returned (.slice a m c) ∧ GvF w w' E g N P ga ab ob xb aa n ac A at_ s X ∧ RowO E wr.heap.size w' (.slice a m c) m Y ∧ Drains O (Y.map strip) P ∧ s.n + m ≤ 200000 := by
  have hl0 := left_few h.rep hN
  obtain ⟨a, m, c, Y, P, rfl, ho, hl, hd, hdr, hr, hc, hm⟩ := hs
  have hC : Chg E wr w' := hc.mono fun i _ e => by rw [e]; exact h.rep.eg
  refine ⟨a, m, c, Y, P, rfl, h.turned hr hC, ⟨ho, hl, fun j hj he => ?_, fun y hy => (hd y hy).more fun j _ hj => ⟨hj, fun he => ?_⟩⟩, hdr, by omega⟩
  · have h1 := (own_typ ho j hj).1
    have h2 := h.rep.lim j he
    omega
  · have h2 := h.rep.lim j he
    omega
end
end Go.Proofs.Ytlkmenjalpmipaa
