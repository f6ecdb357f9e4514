/- VoteChain: five records in an array; sessions; bits. -/
import Derived.Test.YtlaenabckpjikaaVoFew
import Derived.Test.YtlaenabckpjikaaVoChain
set_option linter.unusedVariables false
set_option maxRecDepth 100000
set_option linter.unusedSimpArgs false
namespace Go.Proofs.Ytlaenabckpjikaa
open Go.RowKit Go.Sort Go.Maps

theorem and_bit64 (s k : Nat) (hs : s < 18446744073709551616) : bits .and .u64 ((s : Int) / 2 ^ k) 1 = (if s.testBit k = true then 1 else 0 : Int) := by
  have e1 : ((s : Int) / 2 ^ k) = ((s / 2 ^ k : Nat) : Int) := by rw [Int.natCast_ediv, Int.natCast_pow]; rfl
  rw [e1, show (1 : Int) = ((1 : Nat) : Int) from rfl, bits_and_u64_nat _ 1 (Nat.lt_of_le_of_lt (Nat.div_le_self _ _) hs) (by decide), Nat.and_one_is_mod, Nat.testBit_eq_decide_div_mod_eq]
  by_cases h : s / 2 ^ k % 2 = 1
  · rw [h]; simp
  · rw [show s / 2 ^ k % 2 = 0 by omega]; simp
/-- The cells of the array. -/
def recA (R : Nat → Rc) : List Value := encRc (R 0) ++ (encRc (R 1) ++ (encRc (R 2) ++ (encRc (R 3) ++ encRc (R 4))))
theorem recA_length (R : Nat → Rc) : (recA R).length = 25 := rfl
def RsB (w : World) (g : Nat) (R : Nat → Rc) : Prop := Own w g 56 (recA R).toArray
def updR (R : Nat → Rc) (p : Nat) (x : Rc) : Nat → Rc := fun q => if q = p then x else R q
theorem updR_same (R : Nat → Rc) (p : Nat) (x : Rc) : updR R p x p = x := if_pos rfl
theorem updR_other (R : Nat → Rc) (p : Nat) (x : Rc) {q : Nat} (h : q ≠ p) : updR R p x q = R q := if_neg h
theorem RsB.lt {w : World} {g : Nat} {R : Nat → Rc} (h : RsB w g R) : g < w.heap.size := Own.lt h
theorem RsB.later {w w' : World} {g : Nat} {R : Nat → Rc} (h : RsB w g R) (hb : Below w.heap.size w w') : RsB w' g R := Own.below h hb (Own.lt h)
theorem recA_at (R : Nat → Rc) (p : Nat) (hp : p < 5) (j : Nat) (u : Value) (hj : (encRc (R p))[j]? = some u) : (recA R)[p * 5 + j]? = some u := by
  have hj5 : j < 5 := (List.getElem?_eq_some_iff.1 hj).1
  match p, hp, j, hj5 with
  | 0, _, 0, _ => exact hj
  | 0, _, 1, _ => exact hj
  | 0, _, 2, _ => exact hj
  | 0, _, 3, _ => exact hj
  | 0, _, 4, _ => exact hj
  | 1, _, 0, _ => exact hj
  | 1, _, 1, _ => exact hj
  | 1, _, 2, _ => exact hj
  | 1, _, 3, _ => exact hj
  | 1, _, 4, _ => exact hj
  | 2, _, 0, _ => exact hj
  | 2, _, 1, _ => exact hj
  | 2, _, 2, _ => exact hj
  | 2, _, 3, _ => exact hj
  | 2, _, 4, _ => exact hj
  | 3, _, 0, _ => exact hj
  | 3, _, 1, _ => exact hj
  | 3, _, 2, _ => exact hj
  | 3, _, 3, _ => exact hj
  | 3, _, 4, _ => exact hj
  | 4, _, 0, _ => exact hj
  | 4, _, 1, _ => exact hj
  | 4, _, 2, _ => exact hj
  | 4, _, 3, _ => exact hj
  | 4, _, 4, _ => exact hj
theorem RsB.range {w : World} {g : Nat} {R : Nat → Rc} (h : RsB w g R) (p : Nat) (hp : p < 5) : w.rangeAt g (p * 5) (encRc (R p)) := fun j u hj =>
  Own.at_ h (p * 5 + j) u (by rw [List.getElem?_toArray]; exact recA_at R p hp j u hj)
theorem RsB.there {w : World} {g : Nat} {R : Nat → Rc} (h : RsB w g R) (o n : Nat) (hn : o + n ≤ 25) : w.there g o n := fun j hj => by
  have hlt : o + j < (recA R).length := by rw [recA_length]; omega
  refine ⟨?_, Own.free h _⟩
  rw [Own.at_ h (o + j) ((recA R)[o + j]) (by rw [List.getElem?_toArray]; exact List.getElem?_eq_getElem hlt)]; rfl
theorem five_take (a b c d e x : List Value) (ha : a.length = 5) (hb : b.length = 5) (hc : c.length = 5) (hd : d.length = 5) (he : e.length = 5) (hx : x.length = 5) (p : Nat) (hp : p < 5) :
    (if p = 0 then x ++ (b ++ (c ++ (d ++ e))) else if p = 1 then a ++ (x ++ (c ++ (d ++ e))) else if p = 2 then a ++ (b ++ (x ++ (d ++ e))) else if p = 3 then a ++ (b ++ (c ++ (x ++ e))) else a ++ (b ++ (c ++ (d ++ x)))) =
      (a ++ (b ++ (c ++ (d ++ e)))).take (p * 5) ++ x ++ (a ++ (b ++ (c ++ (d ++ e)))).drop (p * 5 + x.length) := by
  have cases5 : p = 0 ∨ p = 1 ∨ p = 2 ∨ p = 3 ∨ p = 4 := by omega
  rcases cases5 with rfl | rfl | rfl | rfl | rfl
  · simp [List.drop_append, ha, hx, List.drop_of_length_le]
  · simp [List.take_append, List.drop_append, ha, hb, hx, List.drop_of_length_le, List.take_of_length_le]
  · simp [List.take_append, List.drop_append, ha, hb, hc, hx, List.drop_of_length_le, List.take_of_length_le]
  · simp [List.take_append, List.drop_append, ha, hb, hc, hd, hx, List.drop_of_length_le, List.take_of_length_le]
  · simp [List.take_append, List.drop_append, ha, hb, hc, hd, he, hx, List.drop_of_length_le, List.take_of_length_le]
theorem recA_put (R : Nat → Rc) (p : Nat) (hp : p < 5) (x : Rc) : recA (updR R p x) = (recA R).take (p * 5) ++ encRc x ++ (recA R).drop (p * 5 + (encRc x).length) := by
  have h := five_take (encRc (R 0)) (encRc (R 1)) (encRc (R 2)) (encRc (R 3)) (encRc (R 4)) (encRc x) rfl rfl rfl rfl rfl rfl p hp
  unfold recA
  rw [← h]
  have cases5 : p = 0 ∨ p = 1 ∨ p = 2 ∨ p = 3 ∨ p = 4 := by omega
  rcases cases5 with rfl | rfl | rfl | rfl | rfl
  · rw [if_pos rfl]; simp [updR]
  · rw [if_neg (by decide), if_pos rfl]; simp [updR]
  · rw [if_neg (by decide), if_neg (by decide), if_pos rfl]; simp [updR]
  · rw [if_neg (by decide), if_neg (by decide), if_neg (by decide), if_pos rfl]; simp [updR]
  · rw [if_neg (by decide), if_neg (by decide), if_neg (by decide), if_neg (by decide)]; simp [updR]
theorem RsB.put {w : World} {g : Nat} {R : Nat → Rc} (h : RsB w g R) (p : Nat) (hp : p < 5) (x : Rc) : RsB (w.setCells g (p * 5) (encRc x)) g (updR R p x) := by
  have hr := recA_put R p hp x
  have hsz : p * 5 + (encRc x).length ≤ (recA R).toArray.size := by rw [List.size_toArray, recA_length, encRc_length]; omega
  obtain ⟨cur, h1, h2⟩ := heap_setCells (encRc x) (p * 5) w _ h hsz
  have e : cur = (recA (updR R p x)).toArray := by
    rw [hr, ← Array.toArray_toList (xs := cur), h2]
  subst e
  exact h1
theorem setCells_other {g : Nat} : ∀ (vs : List Value) (o : Nat) (w : World) (k : Nat), k ≠ g → (w.setCells g o vs).heap[k]? = w.heap[k]?
  | [], o, w, k, _ => rfl
  | v :: r, o, w, k, hk => (setCells_other r (o + 1) (w.setCell ⟨g, o, none⟩ v) k hk).trans (heap_setCell_other w ⟨g, o, none⟩ k v hk)
theorem setCells_size {g : Nat} : ∀ (vs : List Value) (o : Nat) (w : World), (w.setCells g o vs).heap.size = w.heap.size
  | [], o, w => rfl
  | v :: r, o, w => (setCells_size r (o + 1) (w.setCell ⟨g, o, none⟩ v)).trans (by simp [World.setCell])
theorem setCells_below {B : Nat} {w0 w : World} (h : Below B w0 w) (g : Nat) (hg : B ≤ g) : ∀ (vs : List Value) (o : Nat), Below B w0 (w.setCells g o vs) := by
  intro vs
  induction vs generalizing w with
  | nil => intro o; exact h
  | cons v r ih => intro o; exact ih (show Below B w0 (w.setCell ⟨g, o, none⟩ v) from h.setCell (by exact hg) v) (o + 1)
/-- A record whose pending ones lie elsewhere. -/
theorem RcIn.kept {w w' : World} {x : Rc} (h : RcIn w x) (hb : ∀ ad, x.a = some ad → w'.heap[ad.block]? = w.heap[ad.block]?) : RcIn w' x :=
  ⟨⟨⟨h.pend.at_.size, fun h0 => by
    obtain ⟨b, o, e, hr⟩ := h.pend.at_.src h0
    refine ⟨b, o, e, fun i y hy c v hv => ?_⟩
    have := hr i y hy c v hv
    rw [World.cell?_of_block (w := w) (show w'.heap[b]? = w.heap[b]? from hb _ e)]
    exact this⟩, h.pend.ok⟩, h.last, h.nil⟩
/-- The five records in memory. -/
structure ChS (w wr : World) (g : Nat) (R : Nat → Rc) : Prop where
  recs : RsB wr g R
  ins : ∀ p, p < 5 → RcIn wr (R p) ∧ (R p).p.pend.length ≤ 32 ∧ ∀ ad, (R p).a = some ad → ad.block ≠ g ∧ ad.block < wr.heap.size
  base : w.heap.size ≤ g
  bel : Below w.heap.size w wr
section
variable {w wr w' : World} {g : Nat} {R : Nat → Rc}
theorem ChS.k (h : ChS w wr g R) (p : Nat) (hp : p < 5) : (R p).k ≤ 32 := by
  have := (h.ins p hp).1.len
  have := (h.ins p hp).2.1
  omega
theorem ChS.later (h : ChS w wr g R) (hb : Below wr.heap.size wr w') : ChS w w' g R :=
  ⟨h.recs.later hb, fun p hp => ⟨(h.ins p hp).1.below hb, (h.ins p hp).2.1, fun ad e => ⟨((h.ins p hp).2.2 ad e).1, Nat.lt_of_lt_of_le ((h.ins p hp).2.2 ad e).2 hb.size⟩⟩, h.base, h.bel.trans (hb.mono h.bel.size)⟩
theorem ChS.put (h : ChS w wr g R) (p : Nat) (hp : p < 5) (x : Rc) (hx : RcIn wr x) (hl : x.p.pend.length ≤ 32) (ha : ∀ ad, x.a = some ad → ad.block ≠ g ∧ ad.block < wr.heap.size) : ChS w (wr.setCells g (p * 5) (encRc x)) g (updR R p x) := by
  have kp : ∀ y : Rc, RcIn wr y → (∀ ad, y.a = some ad → ad.block ≠ g ∧ ad.block < wr.heap.size) → RcIn (wr.setCells g (p * 5) (encRc x)) y := fun y hy hay => hy.kept fun ad e => setCells_other _ _ _ _ (hay ad e).1
  refine ⟨h.recs.put p hp x, fun q hq => ?_, h.base, setCells_below h.bel g h.base _ _⟩
  by_cases e : q = p
  · subst e
    rw [updR_same]
    exact ⟨kp x hx ha, hl, fun ad e => ⟨(ha ad e).1, by rw [setCells_size]; exact (ha ad e).2⟩⟩
  · rw [updR_other R p x e]
    exact ⟨kp _ (h.ins q hq).1 (h.ins q hq).2.2, (h.ins q hq).2.1, fun ad e => ⟨((h.ins q hq).2.2 ad e).1, by rw [setCells_size]; exact ((h.ins q hq).2.2 ad e).2⟩⟩
/-- A row of the call's own, of records or of views, isn't the array. -/
theorem own_narr {base n k : Nat} {t : TypeId} {v : Value} {xs : List Value} (h : wr.ownsRow base t k v n xs) (hg : RsB wr g R) (ht : t ≠ 56) : some g ≠ v.ownBlock := by
  intro e
  obtain ⟨_, cur, hc⟩ := own_typ18 h g e.symm
  have := (Own.is hg).symm.trans hc
  injection this with e1
  injection e1 with _ e2 _
  exact ht e2.symm
theorem own_setCells {base n k : Nat} {t : TypeId} {v : Value} {xs : List Value} (h : wr.ownsRow base t k v n xs) (hg : RsB wr g R) (ht : t ≠ 56) (o : Nat) (vs : List Value) : (wr.setCells g o vs).ownsRow base t k v n xs :=
  own_keep18 h fun j hj => setCells_other vs o wr j fun e => own_narr h hg ht (by rw [hj, e])
/-- An append onto a row of the law's own. -/
theorem ChS.grown {n k : Nat} {t : TypeId} {v : Value} {xs : List Value} (h : ChS w wr g R) (ho : wr.ownsRow w.heap.size t k v n xs) (ht : t ≠ 56) (hg : wr.grownBy w' v.ownBlock) (hd : ∀ p, p < 5 → ∀ ad, (R p).a = some ad → some ad.block ≠ v.ownBlock) : ChS w w' g R :=
  ⟨Own.grown h.recs hg (own_narr ho h.recs ht), fun p hp => ⟨(h.ins p hp).1.kept fun ad e => hg.block _ ((h.ins p hp).2.2 ad e).2 (hd p hp ad e), (h.ins p hp).2.1, fun ad e => ⟨((h.ins p hp).2.2 ad e).1, Nat.lt_of_lt_of_le ((h.ins p hp).2.2 ad e).2 hg.size⟩⟩, h.base, grown_below h.bel (Nat.le_refl _) ho hg⟩
end
/-- Who came, with their records. -/
def toldR (m : Nat) (R : Nat → Rc) (k : Nat) : List Rc := ((List.range k).filter m.testBit).map R
theorem toldR_next (m : Nat) (R : Nat → Rc) (k : Nat) : toldR m R (k + 1) = if m.testBit k then toldR m R k ++ [R k] else toldR m R k := by
  unfold toldR
  rw [List.range_succ, List.filter_append]
  by_cases h : m.testBit k
  · simp [h]
  · simp [h]
theorem toldR_length (m : Nat) (R : Nat → Rc) (k : Nat) : (toldR m R k).length ≤ k := by
  unfold toldR
  rw [List.length_map]
  exact Nat.le_trans (List.length_filter_le _ _) (by simp)
theorem toldR_mem (m : Nat) (R : Nat → Rc) (k : Nat) (r : Rc) (h : r ∈ toldR m R k) : ∃ p, p < k ∧ R p = r := by
  unfold toldR at h
  obtain ⟨p, hp, rfl⟩ := List.mem_map.1 h
  exact ⟨p, List.mem_range.1 (List.mem_filter.1 hp).1, rfl⟩
theorem toldR_ps (m : Nat) (R : Nat → Rc) (k : Nat) : psL (toldR m R k) = toldV m (fun p => (R p).p) k := by
  unfold psL toldR toldV
  rw [List.map_map]
  rfl
theorem sum_le18 (l : List Nat) (b : Nat) (h : ∀ x ∈ l, x ≤ b) : l.sum ≤ l.length * b := by
  induction l with
  | nil => simp
  | cons y r ih =>
    rw [List.sum_cons, List.length_cons, Nat.add_mul, Nat.one_mul]
    have h1 := h y (by simp)
    have h2 := ih fun x hx => h x (List.mem_cons_of_mem _ hx)
    omega
theorem told_sum (l : List Rc) (n : Nat) (hn : l.length ≤ n) (h : ∀ x ∈ l, x.p.pend.length ≤ 32) : sumP (psL l) ≤ n * 32 := by
  unfold sumP psL
  refine Nat.le_trans (sum_le18 _ 32 fun x hx => ?_) (by rw [List.length_map, List.length_map]; exact Nat.mul_le_mul_right _ hn)
  obtain ⟨r, hr, rfl⟩ := List.mem_map.1 hx
  obtain ⟨y, hy, rfl⟩ := List.mem_map.1 hr
  exact h y hy
theorem addR_len (r : Rp) (v : Vw) (h : r.pend.length ≤ 32) : (addR r v).pend.length ≤ 32 := by
  unfold addR
  split
  · exact h
  · simp only [List.length_append, List.length_cons, List.length_nil]; omega
theorem formR_len (r : Rp) (v : Vw) (h : r.pend.length ≤ 32) : (formR r v).pend.length ≤ 32 := Nat.le_trans (behindV_le _ _) h
end Go.Proofs.Ytlaenabckpjikaa
