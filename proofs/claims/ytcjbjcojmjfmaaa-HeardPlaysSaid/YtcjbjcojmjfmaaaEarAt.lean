/- An ear in memory: one block of 516 cells. -/
import Derived.Test.YtcjbjcojmjfmaaaHeardMath
import Derived.Test.YtcjbjcojmjfmaaaNewest
import Derived.Deep.MidRow
import Derived.BigRegion
set_option linter.unusedVariables false
set_option linter.unusedSimpArgs false
namespace Go.Proofs.Ytcjbjcojmjfmaaa
open Go.RowKit Go.Sort

def encB (b : Bt) : List Value := [.int .u64 (b.ce : Int), .int .i64 b.cr, .int .u64 (b.pe : Int), .int .i64 b.pr, .int .u64 (b.ep : Int)]
def encR (r : Rc) : List Value := [.int .i64 r.tick, .bool r.ever, .int .u64 (r.b.ce : Int), .int .i64 r.b.cr, .int .u64 (r.b.pe : Int), .int .i64 r.b.pr, .int .u64 (r.b.ep : Int), .bool r.told]
theorem encR_length (r : Rc) : (encR r).length = 8 := rfl
def rowR (f : Nat → Rc) : List Value := flat encR ((List.range 64).map f)
def Er.cells (E : Er) : List Value := .int .i64 E.me :: .int .u64 (E.ot : Int) :: .int .i64 E.timeout :: .int .i64 E.clock :: rowR E.recs
theorem rowR_length (f : Nat → Rc) : (rowR f).length = 512 := by
  unfold rowR; rw [flat_length encR 8 encR_length]; simp
theorem range_split (p : Nat) (hp : p < 64) : List.range 64 = List.range p ++ p :: (List.range (63 - p)).map (fun i => p + 1 + i) := by
  conv => lhs; rw [show (64 : Nat) = p + ((63 - p) + 1) by omega, List.range_add, List.range_succ_eq_map]
  simp [List.map_map, Function.comp_def]
  intro a ha
  omega
theorem rowR_split (f : Nat → Rc) (p : Nat) (hp : p < 64) : ∃ A B : List Value, A.length = p * 8 ∧ rowR f = A ++ encR (f p) ++ B ∧ ∀ r, rowR (upd f p r) = A ++ encR r ++ B := by
  refine ⟨flat encR ((List.range p).map f), flat encR (((List.range (63 - p)).map (fun i => p + 1 + i)).map f), by rw [flat_length encR 8 encR_length]; simp, ?_, fun r => ?_⟩
  · unfold rowR
    rw [range_split p hp, List.map_append, List.map_cons, flat_append, flat_cons, List.append_assoc]
  · unfold rowR
    rw [range_split p hp, List.map_append, List.map_cons, flat_append, flat_cons, upd_same, List.append_assoc]
    congr 1
    · congr 1
      apply List.map_congr_left
      intro q hq
      exact upd_other _ _ _ _ (by have := List.mem_range.1 hq; omega)
    · congr 2
      apply List.map_congr_left
      intro q hq
      obtain ⟨i, _, rfl⟩ := List.mem_map.1 hq
      exact upd_other _ _ _ _ (by omega)
theorem rowR_at (f : Nat → Rc) (p : Nat) (hp : p < 64) (c : Nat) (hc : c < 8) : (rowR f)[p * 8 + c]? = (encR (f p))[c]? := by
  unfold rowR
  exact flat_at encR 8 encR_length _ p _ (by rw [List.getElem?_map, List.getElem?_range hp]; rfl) c hc
theorem encR_one (r : Rc) : ∀ u ∈ encR r, u.oneCell' = true := by
  intro u hu
  simp only [encR, List.mem_cons, List.not_mem_nil, or_false] at hu
  rcases hu with rfl | rfl | rfl | rfl | rfl | rfl | rfl | rfl <;> rfl

structure EarAt (w : World) (g : Nat) (E : Er) : Prop where
  own : Own w g 68 E.cells.toArray
  ok : E.ok
theorem EarAt.lt {w : World} {g : Nat} {E : Er} (h : EarAt w g E) : g < w.heap.size := h.own.lt
theorem EarAt.below {w w' : World} {g : Nat} {E : Er} (h : EarAt w g E) (hb : Below w.heap.size w w') : EarAt w' g E := ⟨h.own.below hb h.lt, h.ok⟩
theorem EarAt.grown {w w' : World} {g : Nat} {E : Er} {o : Option Nat} (h : EarAt w g E) (hb : w.grownBy w' o) (hk : some g ≠ o) : EarAt w' g E := ⟨h.own.grown hb hk, h.ok⟩
theorem EarAt.drew {w : World} {g : Nat} {E : Er} (h : EarAt w g E) : EarAt w.drew g E := ⟨h.own, h.ok⟩
theorem EarAt.drewN {w : World} {g : Nat} {E : Er} (h : EarAt w g E) (n : Nat) : EarAt (w.drewN n) g E := ⟨h.own, h.ok⟩
theorem EarAt.c0 {w : World} {g : Nat} {E : Er} (h : EarAt w g E) : w.cell? ⟨g, 0, none⟩ = some (.int .i64 E.me) := h.own.at_ 0 _ rfl
theorem EarAt.c1 {w : World} {g : Nat} {E : Er} (h : EarAt w g E) : w.cell? ⟨g, 1, none⟩ = some (.int .u64 (E.ot : Int)) := h.own.at_ 1 _ rfl
theorem EarAt.c2 {w : World} {g : Nat} {E : Er} (h : EarAt w g E) : w.cell? ⟨g, 2, none⟩ = some (.int .i64 E.timeout) := h.own.at_ 2 _ rfl
theorem EarAt.c3 {w : World} {g : Nat} {E : Er} (h : EarAt w g E) : w.cell? ⟨g, 3, none⟩ = some (.int .i64 E.clock) := h.own.at_ 3 _ rfl
theorem EarAt.cl {w : World} {g : Nat} {E : Er} (h : EarAt w g E) (p : Nat) (hp : p < 64) (c : Nat) (v : Value) (hv : (encR (E.recs p))[c]? = some v) : w.cell? ⟨g, 4 + p * 8 + c, none⟩ = some v := by
  have hc : c < 8 := (List.getElem?_eq_some_iff.1 hv).1
  refine h.own.at_ (4 + p * 8 + c) _ ?_
  rw [List.getElem?_toArray, Er.cells, show 4 + p * 8 + c = (p * 8 + c) + 1 + 1 + 1 + 1 by omega, List.getElem?_cons_succ, List.getElem?_cons_succ, List.getElem?_cons_succ, List.getElem?_cons_succ, rowR_at _ p hp c hc]
  exact hv
theorem EarAt.free {w : World} {g : Nat} {E : Er} (h : EarAt w g E) (j : Nat) : w.frozen? ⟨g, j, none⟩ = false := h.own.free j
theorem EarAt.range {w : World} {g : Nat} {E : Er} (h : EarAt w g E) : w.rangeAt g 4 (rowR E.recs) := fun j v hv => by
  refine h.own.at_ (4 + j) _ ?_
  rw [List.getElem?_toArray, Er.cells, show 4 + j = j + 1 + 1 + 1 + 1 by omega, List.getElem?_cons_succ, List.getElem?_cons_succ, List.getElem?_cons_succ, List.getElem?_cons_succ]
  exact hv
theorem EarAt.part {w : World} {g : Nat} {E : Er} (h : EarAt w g E) (p : Nat) (hp : p < 64) (c : Nat) (cs : List Value) (hv : ∀ j v, cs[j]? = some v → (encR (E.recs p))[c + j]? = some v) : w.rangeAt g (4 + p * 8 + c) cs := fun j v hj => by
  rw [Nat.add_assoc]; exact h.cl p hp (c + j) v (hv j v hj)
theorem EarAt.there {w : World} {g : Nat} {E : Er} (h : EarAt w g E) (p : Nat) (hp : p < 64) (c n : Nat) (hc : c + n ≤ 8) : w.there g (4 + p * 8 + c) n := fun j hj => by
  have hl : c + j < (encR (E.recs p)).length := by rw [encR_length]; omega
  rw [Nat.add_assoc]
  exact ⟨by rw [h.cl p hp (c + j) _ (List.getElem?_eq_getElem hl)]; rfl, h.free _⟩
/-- Some cells of one record are others. -/
theorem eput {w : World} {g : Nat} {E : Er} (h : Own w g 68 E.cells.toArray) (p : Nat) (hp : p < 64) (c : Nat) (vs : List Value) (hc : c + vs.length ≤ 8) (r : Rc) (he : encR r = (encR (E.recs p)).take c ++ vs ++ (encR (E.recs p)).drop (c + vs.length)) :
    Own (w.setCells g (4 + p * 8 + c) vs) g 68 (({ E with recs := upd E.recs p r } : Er).cells.toArray) := by
  have hl : E.cells.length = 516 := by unfold Er.cells; simp [rowR_length]
  obtain ⟨cur, h1, h2⟩ := heap_setCells vs (4 + p * 8 + c) w _ h.is (by simp [hl]; omega)
  have : cur = (({ E with recs := upd E.recs p r } : Er).cells.toArray) := by
    apply Array.ext'
    rw [h2]
    obtain ⟨A, B, hA, hf, hu⟩ := rowR_split E.recs p hp
    show _ = ({ E with recs := upd E.recs p r } : Er).cells
    unfold Er.cells
    simp only
    rw [hu r, he, hf]
    have e8 := encR_length (E.recs p)
    generalize encR (E.recs p) = R at *
    have hR1 : (R.take c).length = c := by rw [List.length_take]; omega
    have hs : R = R.take c ++ ((R.drop c).take vs.length ++ R.drop (c + vs.length)) := by
      conv => lhs; rw [← List.take_append_drop c R, ← List.take_append_drop vs.length (R.drop c), List.drop_drop]
    have hR2 : ((R.drop c).take vs.length).length = vs.length := by rw [List.length_take, List.length_drop]; omega
    generalize R.take c = R1 at *
    generalize (R.drop c).take vs.length = R2 at *
    generalize R.drop (c + vs.length) = R3 at *
    subst hs
    have e1 : (Value.int .i64 E.me :: .int .u64 (E.ot : Int) :: .int .i64 E.timeout :: .int .i64 E.clock :: (A ++ (R1 ++ (R2 ++ R3)) ++ B)) = ((Value.int .i64 E.me :: .int .u64 (E.ot : Int) :: .int .i64 E.timeout :: .int .i64 E.clock :: A) ++ R1) ++ (R2 ++ (R3 ++ B)) := by simp
    rw [e1]
    have hlen : ((Value.int .i64 E.me :: .int .u64 (E.ot : Int) :: .int .i64 E.timeout :: .int .i64 E.clock :: A) ++ R1).length = 4 + p * 8 + c := by simp; omega
    rw [List.take_left' hlen, ← List.append_assoc _ R2, List.drop_left' (by rw [List.length_append, hlen, hR2])]
    simp
  rw [this] at h1
  exact h1
theorem egrown_cells (g : Nat) : ∀ (vs : List Value) (o : Nat) (w : World), w.grownBy (w.setCells g o vs) (some g)
  | [], o, w => World.grownBy.refl w _
  | v :: r, o, w => by
    have h1 : w.grownBy (w.setCell ⟨g, o, none⟩ v) (some g) := ⟨rfl, rfl, rfl, by simp [World.setCell], fun k hk hn => heap_setCell_other w _ _ v (by show k ≠ g; intro e; exact hn (by rw [e]))⟩
    have h2 := egrown_cells g r (o + 1) (w.setCell ⟨g, o, none⟩ v)
    exact ⟨h2.os.trans h1.os, h2.tape.trans h1.tape, h2.output.trans h1.output, Nat.le_trans h1.size h2.size, fun i hi hn => (h2.block i (Nat.lt_of_lt_of_le hi h1.size) hn).trans (h1.block i hi hn)⟩
theorem egrown_tr {w w1 w2 : World} {o : Option Nat} (h : w.grownBy w1 o) (k : w1.grownBy w2 o) : w.grownBy w2 o :=
  ⟨k.os.trans h.os, k.tape.trans h.tape, k.output.trans h.output, Nat.le_trans h.size k.size, fun i hi hn => (k.block i (Nat.lt_of_lt_of_le hi h.size) hn).trans (h.block i hi hn)⟩
theorem egrown_below {w w' : World} (h : Below w.heap.size w w') (o : Option Nat) : w.grownBy w' o := ⟨h.os, h.tape, h.output, h.size, fun k hk _ => h.block k hk⟩
/-- What a call on the ear of the block g leaves. -/
structure Eared (w w' : World) (g : Nat) (E : Er) : Prop where
  at_ : EarAt w' g E
  gr : w.grownBy w' (some g)
theorem EarAt.put1 {w : World} {g : Nat} {E : Er} (h : EarAt w g E) (p : Nat) (hp : p < 64) (c : Nat) (v : Value) (hc : c < 8) (r : Rc) (he : encR r = (encR (E.recs p)).set c v) (hok : ({ E with recs := upd E.recs p r } : Er).ok) :
    Eared w (w.setCell ⟨g, 4 + p * 8 + c, none⟩ v) g { E with recs := upd E.recs p r } :=
  ⟨⟨eput h.own p hp c [v] (by simp; omega) r (by rw [he, List.set_eq_take_append_cons_drop, if_pos (by rw [encR_length]; exact hc)]; simp), hok⟩, egrown_cells g [v] _ w⟩
theorem EarAt.putN {w : World} {g : Nat} {E : Er} (h : EarAt w g E) (p : Nat) (hp : p < 64) (c : Nat) (vs : List Value) (hc : c + vs.length ≤ 8) (r : Rc) (he : encR r = (encR (E.recs p)).take c ++ vs ++ (encR (E.recs p)).drop (c + vs.length)) (hok : ({ E with recs := upd E.recs p r } : Er).ok) :
    Eared w (w.setCells g (4 + p * 8 + c) vs) g { E with recs := upd E.recs p r } :=
  ⟨⟨eput h.own p hp c vs hc r he, hok⟩, egrown_cells g vs _ w⟩
theorem ear_cl {w : World} {g : Nat} {E : Er} (h : Own w g 68 E.cells.toArray) (p : Nat) (hp : p < 64) (c : Nat) (v : Value) (hv : (encR (E.recs p))[c]? = some v) : w.cell? ⟨g, 4 + p * 8 + c, none⟩ = some v := by
  have hc : c < 8 := (List.getElem?_eq_some_iff.1 hv).1
  refine h.at_ (4 + p * 8 + c) _ ?_
  rw [List.getElem?_toArray, Er.cells, show 4 + p * 8 + c = (p * 8 + c) + 1 + 1 + 1 + 1 by omega, List.getElem?_cons_succ, List.getElem?_cons_succ, List.getElem?_cons_succ, List.getElem?_cons_succ, rowR_at _ p hp c hc]
  exact hv
theorem EarAt.clock {w : World} {g : Nat} {E : Er} (h : EarAt w g E) (c : Int) (hok : ({ E with clock := c } : Er).ok) : Eared w (w.setCell ⟨g, 3, none⟩ (.int .i64 c)) g { E with clock := c } :=
  ⟨⟨h.own.set 3 _, hok⟩, egrown_cells g [_] _ w⟩
theorem Eared.trans {w w1 w2 : World} {g : Nat} {E F : Er} (h : Eared w w1 g E) (k : Eared w1 w2 g F) : Eared w w2 g F := ⟨k.at_, egrown_tr h.gr k.gr⟩
end Go.Proofs.Ytcjbjcojmjfmaaa
