/- Layer 16: plain facts for the laws; an act in memory. -/
import Derived.Test.YtmaiphgmnammgaaDoorZGaFew
set_option linter.unusedVariables false
set_option maxRecDepth 100000
set_option linter.unusedSimpArgs false
namespace Go.Proofs.YtmaiphgmnammgaaDoor
open Go.RowKit Go.Sort Go.Maps

section
variable {S : Gt}
theorem nat_zero_bits {a : Nat} (ha : a < 18446744073709551616) (h : ∀ p, p < 64 → a.testBit p = false) : a = 0 :=
  set_ext _ _ ha (by decide) fun i hi => by rw [h i hi, Nat.zero_testBit]
theorem wait_zero (h : GtOk S) : waitG S = 0 ↔ S.Y = S.M := by
  constructor
  · intro hz
    have hb : ∀ p, p < 64 → (S.M.testBit p && if toldG S = true then !S.Y.testBit p else !told S.H p) = false := fun p hp => by
      rw [← wait_bit S p hp, hz, Nat.zero_testBit]
    by_cases ht : toldG S = true
    · refine set_ext _ _ h.y h.m fun p hp => ?_
      have := hb p hp
      rw [if_pos ht] at this
      cases hy : S.Y.testBit p with
      | true => exact (h.sub p hp hy).symm
      | false => rw [hy] at this; simpa using this.symm
    · exfalso
      apply ht
      unfold toldG
      refine decide_eq_true (h.full.2 fun p hp hm => ?_)
      have := hb p hp
      rw [if_neg ht, hm] at this
      simpa using this
  · intro hd
    have ht : toldG S = true := decide_eq_true (h.done hd)
    refine nat_zero_bits (waitG_lt S) fun p hp => ?_
    rw [wait_bit S p hp, if_pos ht, hd]
    cases S.M.testBit p <;> rfl
theorem wait_done (h : GtOk S) : ((waitG S : Int) == 0) = doneG S := by
  unfold doneG
  by_cases e : S.Y = S.M
  · rw [(wait_zero h).2 e, decide_eq_true e]; rfl
  · rw [decide_eq_false e]
    have := mt (wait_zero h).1 e
    simpa using this
theorem wait_in : inn (waitG S) S.M = true := by
  unfold inn
  have : but (waitG S) S.M = 0 := nat_zero_bits (but_lt _ _) fun p hp => by
    rw [but_bit _ _ _ hp, wait_bit S p hp]
    cases S.M.testBit p <;> simp
  rw [this]; rfl
theorem told_add (h : GtOk S) (x : Xg) (ht : toldG S = true) : toldG (addG S x) = true := by
  cases hf : freshG S x.w with
  | false => rw [(add_no hf).1]; exact ht
  | true => have := (h.fresh hf).1; have := of_decide_eq_true ht; omega
theorem told_ready (z : Int) : toldG (readyG S z) = toldG S := by
  unfold readyG; split <;> rfl
theorem ready_gone (z : Int) (ht : toldG S = true) : mem (waitG (readyG S z)) z = false := by
  have ht2 : toldG (readyG S z) = true := by rw [told_ready]; exact ht
  cases hr : readyOk S z with
  | false =>
    unfold readyG
    rw [hr, if_neg (by decide)]
    unfold readyOk at hr
    rw [ht] at hr
    simpa using hr
  | true =>
    cases hm : mem (waitG (readyG S z)) z with
    | false => rfl
    | true =>
      obtain ⟨h0, h1, h2⟩ := mem_lt hm
      rw [wait_bit _ _ (by omega), if_pos ht2] at h2
      have hy : (readyG S z).Y.testBit z.toNat = true := by
        unfold readyG
        rw [hr, if_pos rfl]
        show (any S.Y (onl z)).testBit z.toNat = true
        rw [any_onl_bit _ _ _ (by omega), decide_eq_true (by omega)]; simp
      rw [hy] at h2
      simp at h2
theorem add_gone (x : Xg) (hn : toldG (addG S x) = false) : mem (waitG (addG S x)) x.w = false := by
  cases hm : mem (waitG (addG S x)) x.w with
  | false => rfl
  | true =>
    exfalso
    obtain ⟨h0, h1, h2⟩ := mem_lt hm
    rw [wait_bit _ _ (by omega), if_neg (by rw [hn]; decide)] at h2
    simp only [Bool.and_eq_true, Bool.not_eq_true'] at h2
    cases hf : freshG S x.w with
    | true =>
      have ht := h2.2
      unfold addG told at ht
      rw [hf, if_pos rfl] at ht
      simp only at ht
      rw [show ((x.w.toNat : Nat) : Int) = x.w by omega, setI_same] at ht
      cases ht
    | false =>
      rw [(add_no hf).1] at h2
      unfold freshG at hf
      rw [mem_of h0 h1 h2.1] at hf
      have ht := h2.2
      unfold told at ht
      rw [show ((x.w.toNat : Nat) : Int) = x.w by omega] at ht
      cases hh : S.H x.w with
      | none => rw [hh] at hf; cases hf
      | some y => rw [hh] at ht; cases ht
end
/-- An act's block. -/
def AcB (w : World) (b : Nat) (a : GA) : Prop := Own w b 40 (encGA a).toArray
section
variable {w w' : World} {b : Nat} {a : GA}
theorem AcB.own (h : AcB w b a) : Own w b 40 (encGA a).toArray := h
theorem AcB.below (h : AcB w b a) (hb : Below w.heap.size w w') : AcB w' b a := (hb.block b (Own.lt h)).trans h
theorem AcB.kept (h : AcB w b a) (hb : w'.heap[b]? = w.heap[b]?) : AcB w' b a := hb.trans h
theorem AcB.new (w : World) (a : GA) : AcB (w.alloc (.cells (encGA a).toArray 40)) w.heap.size a := Own.new w _ _
theorem AcB.c0 (h : AcB w b a) : w.cell? ⟨b, 0, none⟩ = some (.bool a.rd) := h.own.at_ 0 _ rfl
theorem AcB.c1 (h : AcB w b a) : w.cell? ⟨b, 1, none⟩ = some (.int .i64 a.p) := h.own.at_ 1 _ rfl
theorem AcB.c2 (h : AcB w b a) : w.cell? ⟨b, 2, none⟩ = some (.int .i64 a.x.w) := h.own.at_ 2 _ rfl
theorem AcB.rng (h : AcB w b a) : w.rangeAt b 2 (encXg a.x) := fun j u hj => by
  have h1 : (encGA a)[j + 2]? = some u := by
    unfold encGA
    unfold encXg at hj
    rw [List.getElem?_cons_succ, List.getElem?_cons_succ]
    exact hj
  rw [show 2 + j = j + 2 by omega]
  exact h.own.at_ (j + 2) u (by rw [List.getElem?_toArray]; exact h1)
end
theorem ac_size : (Tryd.prog.info? 40).map (·.size) = some 8 := by kernel_rfl
theorem load_gam {ops : Array Oper} {rest : List Oper} {o : Oper} {A : Act} {w : World} {Q : Exit → Act → World → Prop} (hgd : o.guard = none) (x : Operand) (ho : o.op = .load 40 x)
    (b q : Nat) (m : GA) (hx : A.eval x = .pointer (some ⟨b, q, none⟩)) (hc : w.rangeAt b q (encGA m))
    (h : wpList Tryd.prog ops Q rest (A.put o.dst (.agg #[.bool m.rd, .int .i64 m.p, .int .i64 m.x.w, .int .u64 m.x.oe, .int .i64 m.x.op, .slice m.x.a m.x.n m.x.c, .int .u64 m.x.k.n, .int .i64 m.x.k.p])) w) : wpList Tryd.prog ops Q (o :: rest) A w :=
  wpList_load_mid hgd 40 x ho b q hx (encGA m) _ hc Tryd.underlying40 rfl ac_size h
theorem gam_range {w : World} {b o k : Nat} {l : List GA} {a : GA} (hr : RowAt encGA 8 w b o l) (ha : l[k]? = some a) : w.rangeAt b (o + k * 8) (encGA a) := fun j u hj => hr k a ha j u hj
/-- What a call that leaves the attempt as it is answers: as a callee of a quiet region. -/
theorem GtN.in_ {w0 w : World} {g mb : Nat} {S : Gt} (h : GtN w0 w g mb S) (n : Nat) (os : Array Obj) : GtB (grow (atD w n) os) g mb S := h.at_.later (below_of_form w n os)
end Go.Proofs.YtmaiphgmnammgaaDoor
