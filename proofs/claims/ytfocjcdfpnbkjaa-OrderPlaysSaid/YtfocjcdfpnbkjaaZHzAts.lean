/- A horizon in memory: its block of 195 cells, its row of promises. -/
import Derived.Test.YtfocjcdfpnbkjaaZHzRows
import Derived.Test.YtfocjcdfpnbkjaaZPops
import Derived.BigRegion
import Derived.Lib.MinMax
set_option linter.unusedVariables false
set_option linter.unusedSimpArgs false
namespace Go.Proofs.Ytfocjcdfpnbkjaa
open Go.RowKit Go.Sort

def encK (m : Mk) : List Value := [.int .u64 (m.hd : Int), .int .u64 (m.rc : Int), .int .u32 (m.cm : Int)]
theorem encK_length (m : Mk) : (encK m).length = 3 := rfl
def rowK (f : Nat → Mk) : List Value := flat encK ((List.range 64).map f)
theorem rowK_length (f : Nat → Mk) : (rowK f).length = 192 := by
  unfold rowK; rw [flat_length encK 3 encK_length]; simp
theorem rowK_at (f : Nat → Mk) (p : Nat) (hp : p < 64) (c : Nat) (hc : c < 3) : (rowK f)[p * 3 + c]? = (encK (f p))[c]? := by
  unfold rowK
  exact flat_at encK 3 encK_length _ p _ (by rw [List.getElem?_map, List.getElem?_range hp]; rfl) c hc
theorem rowK_set (f : Nat → Mk) (p : Nat) (hp : p < 64) (c : Nat) (hc : c < 3) (v : Value) (m : Mk) (he : encK m = (encK (f p)).set c v) : (rowK f).set (p * 3 + c) v = rowK (updM f p m) := by
  apply List.ext_getElem?
  intro i
  rw [List.getElem?_set, rowK_length]
  by_cases hi : i < 192
  · have hd : i / 3 * 3 + i % 3 = i := by omega
    have h3 : i % 3 < 3 := Nat.mod_lt _ (by decide)
    have h64 : i / 3 < 64 := by omega
    have e1 := rowK_at f (i / 3) h64 (i % 3) h3
    have e2 := rowK_at (updM f p m) (i / 3) h64 (i % 3) h3
    rw [hd] at e1 e2
    rw [e1, e2]
    by_cases e : i / 3 = p
    · subst e
      rw [updM_at, he, List.getElem?_set, encK_length]
      by_cases e3 : c = i % 3
      · rw [if_pos (by omega), if_pos (by omega), if_pos e3, if_pos (by omega)]
      · rw [if_neg (by omega), if_neg e3]
    · rw [updM_other _ _ _ _ e, if_neg (by omega)]
  · rw [if_neg (by omega), List.getElem?_eq_none (by rw [rowK_length]; omega), List.getElem?_eq_none (by rw [rowK_length]; omega)]
def Hz.cells (H : Hz) (v : Value) : List Value := .int .u64 (H.oth : Int) :: .int .u64 (H.clock : Int) :: (rowK H.mks ++ [v])
theorem Hz.cells_length (H : Hz) (v : Value) : (H.cells v).length = 195 := by unfold Hz.cells; simp [rowK_length]
theorem cells_bagZ (H : Hz) (v v' : Value) (R : List Pm) : (H.cells v).toArray.setIfInBounds 194 v' = (({ H with wait := R } : Hz).cells v').toArray := by
  rw [List.setIfInBounds_toArray]
  refine congrArg List.toArray ?_
  unfold Hz.cells
  rw [List.set_cons_succ, List.set_cons_succ, List.set_append_right _ _ (by rw [rowK_length]; decide), rowK_length]
  try rfl
theorem cells_clockZ (H : Hz) (v : Value) (c : Nat) : (H.cells v).toArray.setIfInBounds 1 (.int .u64 (c : Int)) = (({ H with clock := c } : Hz).cells v).toArray := by
  rw [List.setIfInBounds_toArray]; rfl
theorem cells_markZ (H : Hz) (v : Value) (p : Nat) (hp : p < 64) (c : Nat) (hc : c < 3) (u : Value) (m : Mk) (he : encK m = (encK (H.mks p)).set c u) : (H.cells v).toArray.setIfInBounds (2 + p * 3 + c) u = ((markZ H p m).cells v).toArray := by
  rw [List.setIfInBounds_toArray]
  refine congrArg List.toArray ?_
  unfold Hz.cells markZ
  rw [show 2 + p * 3 + c = p * 3 + c + 1 + 1 by omega, List.set_cons_succ, List.set_cons_succ, List.set_append_left _ _ (by rw [rowK_length]; omega), rowK_set _ p hp c hc u m he]

structure HzAt (w : World) (g B : Nat) (H : Hz) (s : ZSl) : Prop where
  own : Own w g 146 (H.cells s.v).toArray
  row : ZSlot w s H.wait
  base : B ≤ g
  base2 : ∀ x, s.a = some x → B ≤ x.block
  ok : H.ok
section
variable {w : World} {g B : Nat} {H : Hz} {s : ZSl}
theorem HzAt.lt (h : HzAt w g B H s) : g < w.heap.size := h.own.lt
theorem HzAt.c0 (h : HzAt w g B H s) : w.cell? ⟨g, 0, none⟩ = some (.int .u64 (H.oth : Int)) := h.own.at_ 0 _ rfl
theorem HzAt.c1 (h : HzAt w g B H s) : w.cell? ⟨g, 1, none⟩ = some (.int .u64 (H.clock : Int)) := h.own.at_ 1 _ rfl
theorem cell_mark (h : Own w g 146 (H.cells s.v).toArray) (p : Nat) (hp : p < 64) (c : Nat) (u : Value) (hu : (encK (H.mks p))[c]? = some u) : w.cell? ⟨g, 2 + p * 3 + c, none⟩ = some u := by
  have hc : c < 3 := (List.getElem?_eq_some_iff.1 hu).1
  refine h.at_ (2 + p * 3 + c) _ ?_
  rw [List.getElem?_toArray, Hz.cells, show 2 + p * 3 + c = p * 3 + c + 1 + 1 by omega, List.getElem?_cons_succ, List.getElem?_cons_succ, List.getElem?_append_left (by rw [rowK_length]; omega), rowK_at _ p hp c hc]
  exact hu
theorem HzAt.k0 (h : HzAt w g B H s) (p : Nat) (hp : p < 64) : w.cell? ⟨g, 2 + p * 3, none⟩ = some (.int .u64 ((H.mks p).hd : Int)) := cell_mark h.own p hp 0 _ rfl
theorem HzAt.k1 (h : HzAt w g B H s) (p : Nat) (hp : p < 64) : w.cell? ⟨g, 2 + p * 3 + 1, none⟩ = some (.int .u64 ((H.mks p).rc : Int)) := cell_mark h.own p hp 1 _ rfl
theorem HzAt.k2 (h : HzAt w g B H s) (p : Nat) (hp : p < 64) : w.cell? ⟨g, 2 + p * 3 + 2, none⟩ = some (.int .u32 ((H.mks p).cm : Int)) := cell_mark h.own p hp 2 _ rfl
theorem HzAt.cw (h : HzAt w g B H s) : w.cell? ⟨g, 194, none⟩ = some s.v := by
  refine h.own.at_ 194 _ ?_
  rw [List.getElem?_toArray, Hz.cells, List.getElem?_cons_succ, List.getElem?_cons_succ, List.getElem?_append_right (by rw [rowK_length]; decide), rowK_length]
  rfl
theorem HzAt.free (h : HzAt w g B H s) (j : Nat) : w.frozen? ⟨g, j, none⟩ = false := h.own.free j
/-- The row lies in another block. -/
theorem HzAt.ne (h : HzAt w g B H s) (x : Addr) (hx : s.a = some x) : x.block ≠ g := by
  obtain ⟨cur, hc⟩ := h.row.typ x hx
  intro e
  rw [e] at hc
  have := h.own.is.symm.trans hc
  injection this with e
  injection e with _ e _
  exact absurd e (by decide)
theorem HzAt.kept {w' : World} (h : HzAt w g B H s) (hb : ∀ k, k < w.heap.size → k = g ∨ (∃ x, s.a = some x ∧ k = x.block) → w'.heap[k]? = w.heap[k]?) : HzAt w' g B H s :=
  ⟨(hb g h.lt (.inl rfl)).trans h.own, h.row.kept fun x hx => hb _ (h.row.lt x hx) (.inr ⟨x, hx, rfl⟩), h.base, h.base2, h.ok⟩
theorem HzAt.below {w' : World} (h : HzAt w g B H s) (hb : Below w.heap.size w w') : HzAt w' g B H s := h.kept fun k hk _ => hb.block k hk
theorem HzAt.drewN (h : HzAt w g B H s) (n : Nat) : HzAt (w.drewN n) g B H s := h.kept fun _ _ _ => rfl
end
/-- What a call on the horizon of the block g leaves of the rest. -/
structure ZMoved (w w' : World) (g : Nat) (ao ao' : Option Addr) : Prop where
  os : w'.os = w.os
  tape : w'.tape = w.tape
  output : w'.output = w.output
  size : w.heap.size ≤ w'.heap.size
  block : ∀ k, k < w.heap.size → k ≠ g → (∀ a, ao = some a → k ≠ a.block) → w'.heap[k]? = w.heap[k]?
  own : ∀ a, ao' = some a → (∃ a0, ao = some a0 ∧ a0.block = a.block) ∨ w.heap.size ≤ a.block
theorem ZMoved.refl (w : World) (g : Nat) (ao : Option Addr) : ZMoved w w g ao ao := ⟨rfl, rfl, rfl, Nat.le_refl _, fun _ _ _ _ => rfl, fun a h => .inl ⟨a, h, rfl⟩⟩
theorem ZMoved.trans {w w' w'' : World} {g : Nat} {ao ao' ao'' : Option Addr} (h : ZMoved w w' g ao ao') (k : ZMoved w' w'' g ao' ao'') : ZMoved w w'' g ao ao'' where
  os := k.os.trans h.os
  tape := k.tape.trans h.tape
  output := k.output.trans h.output
  size := Nat.le_trans h.size k.size
  block := fun i hi hg ha => (k.block i (Nat.lt_of_lt_of_le hi h.size) hg (fun a e => by
    rcases h.own a e with ⟨a0, e0, e1⟩ | e0
    · rw [← e1]; exact ha a0 e0
    · omega)).trans (h.block i hi hg ha)
  own := fun a e => by
    rcases k.own a e with ⟨a0, e0, e1⟩ | e0
    · rcases h.own a0 e0 with ⟨a1, e2, e3⟩ | e2
      · exact .inl ⟨a1, e2, e3.trans e1⟩
      · exact .inr (by rw [← e1]; exact e2)
    · exact .inr (Nat.le_trans h.size e0)
theorem ZMoved.of_below {w w' : World} (h : Below w.heap.size w w') (g : Nat) (ao : Option Addr) : ZMoved w w' g ao ao := ⟨h.os, h.tape, h.output, h.size, fun k hk _ _ => h.block k hk, fun a h => .inl ⟨a, h, rfl⟩⟩
theorem ZMoved.of_grown {w w' : World} {g : Nat} {o : Option Nat} (h : w.grownBy w' o) (ao : Option Addr) (ho : ∀ k, o = some k → k = g ∨ ∃ a, ao = some a ∧ k = a.block) : ZMoved w w' g ao ao :=
  ⟨h.os, h.tape, h.output, h.size, fun k hk hg ha => h.block k hk (fun e => by
    rcases ho k e.symm with e1 | ⟨a, e1, e2⟩
    · exact hg e1
    · exact ha a e1 e2), fun a h => .inl ⟨a, h, rfl⟩⟩
theorem ZMoved.then {w w' w'' : World} {g : Nat} {ao ao' : Option Addr} (h : ZMoved w w' g ao ao') (k : Below w'.heap.size w' w'') : ZMoved w w'' g ao ao' := h.trans (ZMoved.of_below k g ao')
theorem ZMoved.after {w w' w'' : World} {g : Nat} {ao ao' : Option Addr} (k : Below w.heap.size w w') (h : ZMoved w' w'' g ao ao') : ZMoved w w'' g ao ao' := (ZMoved.of_below k g ao).trans h
theorem ZMoved.below {w w' : World} {g B : Nat} {H : Hz} {s : ZSl} {ao' : Option Addr} (m : ZMoved w w' g s.a ao') (h : HzAt w g B H s) {B' : Nat} (hB : B' ≤ B) : Below B' w w' :=
  ⟨m.os, m.tape, m.output, m.size, fun k hk => m.block k (by have := h.lt; have := h.base; omega) (by have := h.base; omega) (fun a e => by have := h.base2 a e; omega)⟩
theorem ZMoved.base {w w' : World} {g B : Nat} {ao ao' : Option Addr} (m : ZMoved w w' g ao ao') (h : ∀ x, ao = some x → B ≤ x.block) (hB : B ≤ w.heap.size) : ∀ x, ao' = some x → B ≤ x.block := fun x e => by
  rcases m.own x e with ⟨a, e1, e2⟩ | e1
  · rw [← e2]; exact h a e1
  · omega
/-- What a call leaves: another horizon at the same place. -/
structure Gone13 (w w' : World) (g B : Nat) (s : ZSl) (H' : Hz) : Prop where
  ex : ∃ s', HzAt w' g B H' s' ∧ ZMoved w w' g s.a s'.a
theorem Gone13.mk' {w w' : World} {g B : Nat} {s s' : ZSl} {H' : Hz} (h : HzAt w' g B H' s') (m : ZMoved w w' g s.a s'.a) : Gone13 w w' g B s H' := ⟨⟨s', h, m⟩⟩
theorem HzAt.size {w : World} {g B : Nat} {H : Hz} {s : ZSl} (h : HzAt w g B H s) : B ≤ w.heap.size := Nat.le_trans h.base (Nat.le_of_lt h.lt)
/-- The clock is another one. -/
theorem HzAt.tick {w : World} {g B : Nat} {H : Hz} {s : ZSl} (h : HzAt w g B H s) (c : Nat) (hok : ({ H with clock := c } : Hz).ok) : HzAt (w.setCell ⟨g, 1, none⟩ (.int .u64 (c : Int))) g B { H with clock := c } s ∧ ZMoved w (w.setCell ⟨g, 1, none⟩ (.int .u64 (c : Int))) g s.a s.a := by
  have ho := h.own.set 1 (.int .u64 (c : Int))
  rw [cells_clockZ] at ho
  have hg := grown_set13 w g 1 (.int .u64 (c : Int))
  exact ⟨⟨ho, h.row.kept fun x hx => hg.block _ (h.row.lt x hx) (by intro e; exact h.ne x hx (by cases e; rfl)), h.base, h.base2, hok⟩, ZMoved.of_grown hg _ fun k e => by cases e; exact .inl rfl⟩
/-- One cell of one mark is another one. -/
theorem HzAt.mark {w : World} {g B : Nat} {H : Hz} {s : ZSl} (h : HzAt w g B H s) (p : Nat) (hp : p < 64) (c : Nat) (hc : c < 3) (v : Value) (m : Mk) (he : encK m = (encK (H.mks p)).set c v) (hok : (markZ H p m).ok) : HzAt (w.setCell ⟨g, 2 + p * 3 + c, none⟩ v) g B (markZ H p m) s ∧ ZMoved w (w.setCell ⟨g, 2 + p * 3 + c, none⟩ v) g s.a s.a := by
  have ho := h.own.set (2 + p * 3 + c) v
  rw [cells_markZ H _ p hp c hc v m he] at ho
  have hg := grown_set13 w g (2 + p * 3 + c) v
  exact ⟨⟨ho, h.row.kept fun x hx => hg.block _ (h.row.lt x hx) (by intro e; exact h.ne x hx (by cases e; rfl)), h.base, h.base2, hok⟩, ZMoved.of_grown hg _ fun k e => by cases e; exact .inl rfl⟩
/-- Its row is another one: behind what turned the row alone. -/
theorem HzAt.rowed {w w1 : World} {g B : Nat} {H : Hz} {s s' : ZSl} (h : HzAt w g B H s) (m : ZMoved w w1 g s.a s'.a) (hg : w1.heap[g]? = w.heap[g]?) (R : List Pm) (hr : ZSlot w1 s' R) (hok : ({ H with wait := R } : Hz).ok) :
    HzAt (w1.setCell ⟨g, 194, none⟩ s'.v) g B { H with wait := R } s' ∧ ZMoved w (w1.setCell ⟨g, 194, none⟩ s'.v) g s.a s'.a := by
  have ho : Own w1 g 146 (H.cells s.v).toArray := hg.trans h.own
  have ho2 := ho.set 194 s'.v
  rw [cells_bagZ H _ _ R] at ho2
  have hgr := grown_set13 w1 g 194 s'.v
  have hne : ∀ x, s'.a = some x → x.block ≠ g := fun x hx => by
    obtain ⟨cur, hc⟩ := hr.typ x hx
    intro e
    rw [e] at hc
    have := ho.is.symm.trans hc
    injection this with e
    injection e with _ e _
    exact absurd e (by decide)
  exact ⟨⟨ho2, hr.kept fun x hx => hgr.block _ (hr.lt x hx) (by intro e; exact hne x hx (by cases e; rfl)), h.base, m.base h.base2 h.size, hok⟩, m.trans (ZMoved.of_grown hgr _ fun k e => by cases e; exact .inl rfl)⟩
/-- The horizon beside: of other blocks. -/
theorem HzAt.beside {w w' : World} {g g' B : Nat} {H : Hz} {s : ZSl} {ao' ao'' : Option Addr} (h : HzAt w g B H s) (m : ZMoved w w' g' ao' ao'') (h1 : g ≠ g') (h2 : ∀ a, ao' = some a → g ≠ a.block) (h3 : ∀ a, s.a = some a → a.block ≠ g') (h4 : ∀ a b, s.a = some a → ao' = some b → a.block ≠ b.block) : HzAt w' g B H s :=
  h.kept fun k hk e => by
    rcases e with rfl | ⟨a, e1, rfl⟩
    · exact m.block _ hk h1 h2
    · exact m.block _ hk (h3 a e1) (fun b e2 => h4 a b e1 e2)
end Go.Proofs.Ytfocjcdfpnbkjaa

/- New, Clock, See, Stamp, Reached, All, Safe. -/
set_option linter.unusedVariables false
set_option linter.unusedSimpArgs false
namespace Go.Proofs.Ytfocjcdfpnbkjaa
open Go.RowKit Go.Sort Go.Shelf

theorem ofl_oneZ (z : Int) : ofl [z] = onl z := set_ext _ _ (num_lt _) (onl_lt _) fun i hi => by
  unfold ofl
  rw [num_bit, onl_bit _ _ hi]
  simp [hi]
theorem InI.oneZ (w : World) (z : Int) (h0 : -9223372036854775808 ≤ z) (h1 : z ≤ 9223372036854775807) : InI (w.alloc (.cells #[.int .i64 z] 3)) (some ⟨w.heap.size, 0, none⟩) 1 [z] := ⟨rfl, fun j v hj => ⟨_, rfl, by
    cases j with
    | zero => simp at hj; subst hj; simp [Addr.add]
    | succ j => simp at hj⟩, fun v hv => by simp at hv; omega⟩
theorem build_hz (o : Nat) (w : World) : (Instr.build 146 #[(0, .int .u64 (o : Int))]).run Try.prog w = .ok (.agg (Hz.cells ⟨o, 0, fun _ => ⟨0, 0, 0⟩, []⟩ zslNil.v).toArray) w := by kernel_rfl
theorem step_build1 {ops : Array Oper} {rest : List Oper} {o : Oper} {a : Act} {w : World} {Q : Exit → Act → World → Prop} (hgd : o.guard = none) (ty : TypeId) (x : Operand) (ho : o.op = .build ty #[(0, x)])
    (vx v : Value) (hx : a.eval x = vx) (hb : (Instr.build ty #[(0, vx)]).run Try.prog w = .ok v w)
    (h : wpList Try.prog ops Q rest (a.put o.dst v) w) : wpList Try.prog ops Q (o :: rest) a w :=
  wpList_plain hgd fun _ hK => by
    unfold Oper.wp execOp
    simp only [ho, hx, List.map_toArray, List.map_cons, List.map_nil, Sem.run_bind, Sem.run_pure, Result.andThen_ok, hb]
    exact hK _ _ h
set_option maxHeartbeats 2000000 in
theorem znew (me : Int) (s : Nat) (w : World) (hs : s < 18446744073709551616) (m0 : -9223372036854775808 ≤ me) (m1 : me ≤ 9223372036854775807) :
    Calls Try.prog 64 #[.int .i64 me, .int .u64 (s : Int)] w fun e w' => e = .returned (.pointer (some ⟨w.heap.size + 1, 0, none⟩)) ∧ HzAt w' (w.heap.size + 1) w.heap.size (newZ me s) zslNil ∧ Below w.heap.size w w' := by
  have HI := InI.oneZ w me m0 m1
  have HL := less_any s (some ⟨w.heap.size, 0, none⟩) 1 1 [me] _ hs HI (by decide)
  rw [ofl_oneZ] at HL
  have HO := Lib.hid (show HzAt ((w.alloc (.cells #[.int .i64 me] 3)).alloc (.cells ((newZ me s).cells zslNil.v).toArray 146)) (w.heap.size + 1) w.heap.size (newZ me s) zslNil from ⟨by
    have := Own.new (w.alloc (.cells #[.int .i64 me] 3)) 146 ((newZ me s).cells zslNil.v).toArray
    rw [show (w.alloc (.cells #[.int .i64 me] 3)).heap.size = w.heap.size + 1 by simp] at this
    exact this, ZSlot.nil _, by omega, (fun x hx => by cases hx), ok_new me s⟩)
  have hb := Lib.hid (fun w => build_hz (but s (onl me)) w)
  have HB := Lib.hid (((Grw.refl w).alloc (.cells #[.int .i64 me] 3)).alloc (.cells ((newZ me s).cells zslNil.v).toArray 146)).below
  unfold newZ at *
  generalize but s (onl me) = t at *
  generalize hC : Hz.cells ⟨t, 0, fun _ => ⟨0, 0, 0⟩, []⟩ zslNil.v = C at *
  have hC := Lib.hid hC
  clear HI
  go_enter Try.func64, Try.ntmps64
  go_wp2_with fail
  refine HL.mono ?_
  rintro e w' ⟨rfl, rfl⟩
  go_wp2_with (with_reducible refine step_build1 rfl 146 (.tmp 8) rfl (.int .u64 (t : Int)) (.agg C.toArray) rfl (hb.out _) ?_)
  go_ret
  exact ⟨rfl, HO.out, HB.out⟩

section
variable {w : World} {g B : Nat} {H : Hz} {s : ZSl}
theorem zclock (h : HzAt w g B H s) :
    Calls Try.prog 23 #[.pointer (some ⟨g, 0, none⟩)] w fun e w' => e = .returned (.int .u64 (H.clock : Int)) ∧ w = w' := by
  have c1 := h.c1
  clear h
  go_enter Try.func23, Try.ntmps23
  go_wp2
  go_ret
  exact ⟨rfl, rfl⟩
set_option maxHeartbeats 1000000 in
theorem zsee (h : HzAt w g B H s) (c : Nat) (hc : c < 18446744073709551616) :
    Calls Try.prog 77 #[.pointer (some ⟨g, 0, none⟩), .int .u64 (c : Int)] w fun e w' => e = .returned (.tuple #[]) ∧ HzAt w' g B (seeZ H c) s ∧ ZMoved w w' g s.a s.a := by
  have c1 := h.c1
  have f1 := h.free 1
  obtain ⟨z, hz⟩ : ∃ z, z = max H.clock c := ⟨_, rfl⟩
  have hok := ok_see h.ok hc
  have HT := h.tick (max H.clock c) hok
  rw [← hz] at HT
  have hzi : max (H.clock : Int) (c : Int) = (z : Int) := by omega
  have HT := Lib.hid HT
  have HZ := Lib.hid (show seeZ H c = { H with clock := z } by rw [hz]; rfl)
  clear h hz hok
  go_enter Try.func77, Try.ntmps77
  go_wp2
  go_end0
  rw [HZ.out]
  exact ⟨rfl, HT.out.1, HT.out.2⟩
theorem mem_nat13 {a : Nat} {p : Int} (h : mem a p = true) : ∃ k : Nat, p = (k : Int) ∧ k < 64 ∧ a.testBit k = true := by
  unfold mem at h
  simp at h
  obtain ⟨⟨h1, h2⟩, h3⟩ := h
  obtain ⟨k, rfl⟩ := Int.eq_ofNat_of_zero_le h1
  exact ⟨k, rfl, by omega, by simpa using h3⟩
set_option maxHeartbeats 2000000 in
theorem zreached (h : HzAt w g B H s) (p : Int) (p0 : -9223372036854775808 ≤ p) (p1 : p ≤ 9223372036854775807) (c : Nat) (hc : c < 18446744073709551616) :
    Calls Try.prog 35 #[.pointer (some ⟨g, 0, none⟩), .int .i64 p, .int .u64 (c : Int)] w fun e w' => e = .returned (.tuple #[]) ∧ HzAt w' g B (reachZ H p c) s ∧ ZMoved w w' g s.a s.a := by
  have c0 := h.c0
  have M := has_any H.oth p w h.ok.o p0 p1
  cases hm : mem H.oth p with
  | false =>
    rw [reachZ_no hm]
    rw [hm] at M
    have HH := Lib.hid h
    clear h hm
    go_enter Try.func35, Try.ntmps35
    go_wp2_with (go_at_call 57; refine M.mono ?_; rintro e w' ⟨rfl, rfl⟩)
    go_end0
    exact ⟨rfl, HH.out, ZMoved.refl _ _ _⟩
  | true =>
    rw [reachZ_yes hm]
    rw [hm] at M
    obtain ⟨k, rfl, hk, -⟩ := mem_nat13 hm
    rw [Int.toNat_natCast]
    have k1 := h.k1 k hk
    have f1 := h.free (2 + k * 3 + 1)
    have hk' : (k : Int) < 64 := by omega
    have hr := h.ok.r k
    obtain ⟨z, hz⟩ : ∃ z, z = max (H.mks k).rc c := ⟨_, rfl⟩
    have hzi : max ((H.mks k).rc : Int) (c : Int) = (z : Int) := by omega
    have HT := h.mark k hk 1 (by decide) (.int .u64 (z : Int)) ⟨(H.mks k).hd, z, (H.mks k).cm⟩ rfl (ok_mark h.ok k (h.ok.h k) (by show z < _; omega) (h.ok.n k))
    rw [← hz]
    have HT := Lib.hid HT
    clear h hm hz hr
    go_enter Try.func35, Try.ntmps35
    go_wp2_with (go_at_call 57; refine M.mono ?_; rintro e w' ⟨rfl, rfl⟩)
    go_end0
    exact ⟨rfl, HT.out.1, HT.out.2⟩
/-- What the two closures answer. -/
theorem zheard (h : HzAt w g B H s) (k : Nat) (hk : k < 64) :
    Calls Try.prog 146 #[.pointer (some ⟨g, 2 + k * 3, none⟩)] w fun e w' => e = .returned (.int .u64 ((H.mks k).hd : Int)) ∧ w = w' := by
  have k0 := h.k0 k hk
  clear h
  go_enter Try.func146, Try.ntmps146
  go_wp2
  go_ret
  exact ⟨rfl, rfl⟩
theorem zreach (h : HzAt w g B H s) (k : Nat) (hk : k < 64) :
    Calls Try.prog 145 #[.pointer (some ⟨g, 2 + k * 3, none⟩)] w fun e w' => e = .returned (.int .u64 ((H.mks k).rc : Int)) ∧ w = w' := by
  have k1 := h.k1 k hk
  clear h
  go_enter Try.func145, Try.ntmps145
  go_wp2
  go_ret
  exact ⟨rfl, rfl⟩
theorem mem_ltZ {a : Nat} {k : Nat} (hk : k < 64) : mem a (k : Int) = a.testBit k := mem_nat a k hk
set_option maxHeartbeats 4000000 in
theorem zleast (h : HzAt w g B H s) (fn : Nat) (eg : ∀ args w, (callFunc fn args).run Try.prog w = .ok (.enter fn args) w) (f : Nat → Nat) (c : Nat) (hf : ∀ k, k < 64 → Calls Try.prog fn #[.pointer (some ⟨g, 2 + k * 3, none⟩)] w fun e w' => e = .returned (.int .u64 (f k : Int)) ∧ w = w') :
    Calls Try.prog 144 #[.pointer (some ⟨g, 0, none⟩), .int .u64 (c : Int), .func (.func fn) #[] #[]] w fun e w' => e = .returned (.int .u64 (leastN H.oth f c : Nat)) ∧ w = w' := by
  have c0 := h.c0
  have HK := Lib.hid (fun k (h1 : 64 ≤ k) (h2 : k ≤ 64) => leastN_at H.oth f c k h1 h2)
  have HY := Lib.hid (leastK_yes H.oth f c)
  have HN := Lib.hid (leastK_no H.oth f c)
  have olt := h.ok.o
  have HF := Lib.hid hf
  have h0 := leastK_zero H.oth f c
  clear h hf
  go_enter Try.func144, Try.ntmps144
  go_wp2
  rw [← h0]
  clear h0
  go_loop [1, 8] (fun s i => ∃ k : Nat, k ≤ 64 ∧ i = .int .i64 k ∧ s = .int .u64 (leastK H.oth f c k : Nat)) (fun _ i => 64 - (intOf i).toNat)
  case atStart => exact ⟨0, Nat.zero_le _, rfl, rfl⟩
  case round =>
    obtain ⟨k, hk, rfl, rfl⟩ := hrel
    by_cases hlt : k < 64
    · have M := has_any H.oth (k : Int) w olt (by omega) (by omega)
      rw [mem_ltZ hlt] at M
      have hy := Lib.hid (HY.out k)
      have hn := Lib.hid (HN.out k)
      have C := HF.out k hlt
      have hk' : (k : Int) < 64 := by omega
      cases hb : H.oth.testBit k with
      | false =>
        rw [hb] at M
        have e := Lib.hid (hn.out hb)
        clear hb HY HN hy hn
        go_wp2_with (first | (go_at_call 57; refine M.mono ?_; rintro e w' ⟨rfl, rfl⟩))
        go_round
        case rel => exact ⟨k + 1, by omega, by go_num, by rw [e.out]⟩
        case measure => simp [intOf]; omega
      | true =>
        rw [hb] at M
        have e := hy.out hb
        obtain ⟨a, ha⟩ : ∃ a, a = leastK H.oth f c k := ⟨_, rfl⟩
        obtain ⟨b, hb2⟩ : ∃ b, b = f k := ⟨_, rfl⟩
        obtain ⟨z, hz⟩ : ∃ z, z = min a b := ⟨_, rfl⟩
        rw [← ha, ← hb2, ← hz] at e
        rw [← ha]
        rw [← hb2] at C
        have hzi : min (a : Int) (b : Int) = (z : Int) := by omega
        have e := Lib.hid e
        clear hb HY HN hy hn ha hb2 hz
        go_wp2_with (first | (go_at_call 57; refine M.mono ?_; rintro e w' ⟨rfl, rfl⟩) | (go_at_fn fn; refine C.mono ?_; rintro e w' ⟨rfl, rfl⟩))
        go_round
        case rel => exact ⟨k + 1, by omega, by go_num, by rw [e.out]⟩
        case measure => simp [intOf]; omega
    · have HZ := Lib.hid (HK.out k (by omega) hk)
      clear c0 olt
      go_wp2
      go_ret
      exact ⟨by rw [HZ.out]; rfl, rfl⟩
set_option maxHeartbeats 1000000 in
theorem zall (h : HzAt w g B H s) :
    Calls Try.prog 137 #[.pointer (some ⟨g, 0, none⟩)] w fun e w' => e = .returned (.int .u64 (allN H : Nat)) ∧ w = w' := by
  have K := zleast h 146 (enters_of Try.func146 (by kernel_rfl) rfl) (fun p => (H.mks p).hd) H.clock (fun k hk => zheard h k hk)
  rw [show leastN H.oth (fun p => (H.mks p).hd) H.clock = allN H from rfl] at K
  have c1 := h.c1
  generalize allN H = z at *
  clear h
  go_enter Try.func137, Try.ntmps137
  go_wp2_with fail
  refine K.mono ?_
  rintro e w' ⟨rfl, rfl⟩
  go_wp2
  go_ret
  exact ⟨rfl, rfl⟩
set_option maxHeartbeats 1000000 in
theorem zsafe (h : HzAt w g B H s) :
    Calls Try.prog 136 #[.pointer (some ⟨g, 0, none⟩)] w fun e w' => e = .returned (.int .u64 (safeN H : Nat)) ∧ w = w' := by
  have KA := zall h
  have K := zleast h 145 (enters_of Try.func145 (by kernel_rfl) rfl) (fun p => (H.mks p).rc) (allN H) (fun k hk => zreach h k hk)
  rw [show leastN H.oth (fun p => (H.mks p).rc) (allN H) = safeN H from rfl] at K
  generalize safeN H = z at *
  generalize allN H = y at *
  clear h
  go_enter Try.func136, Try.ntmps136
  go_wp2_with fail
  refine KA.mono ?_
  rintro e w' ⟨rfl, rfl⟩
  go_wp2_with fail
  refine K.mono ?_
  rintro e w' ⟨rfl, rfl⟩
  go_wp2
  go_ret
  exact ⟨rfl, rfl⟩
end
end Go.Proofs.Ytfocjcdfpnbkjaa

/- The predicates: covers, and the two closures. -/
set_option linter.unusedVariables false
set_option linter.unusedSimpArgs false
namespace Go.Proofs.Ytfocjcdfpnbkjaa
open Go.RowKit Go.Sort Go.Shelf

theorem coversP_cast (a b : Pm) : coversP a b = (((a.frm == b.frm) && decide (a.sn ≤ b.sn)) && decide (b.st ≤ a.st)) := rfl
theorem doneP_cast (p : Int) (h : Nat) (a : Pm) : doneP p h a = ((a.frm == p) && decide (a.st ≤ h)) := rfl
theorem hits_cast (p : Int) (c : Nat) (a : Pm) : hits p c a = ((a.frm == p) && decide (a.sn ≤ c)) := rfl
set_option maxHeartbeats 4000000 in
theorem zcovers (a b : Pm) (W : World) :
    Calls Try.prog 123 #[.agg #[.int .i64 a.frm, .int .u64 (a.st : Int), .int .u32 (a.sn : Int)], .agg #[.int .i64 b.frm, .int .u64 (b.st : Int), .int .u32 (b.sn : Int)]] W fun e w' => e = .returned (.bool (coversP a b)) ∧ Below W.heap.size W w' := by
  have HB := Lib.hid (((Grw.refl W).alloc (.cells #[.int .i64 a.frm, .int .u64 (a.st : Int), .int .u32 (a.sn : Int)] 158)).alloc (.cells #[.int .i64 b.frm, .int .u64 (b.st : Int), .int .u32 (b.sn : Int)] 158)).below
  rw [coversP_cast]
  obtain ⟨af, ast, aq⟩ := a
  obtain ⟨bf, bst, bq⟩ := b
  simp only at *
  cases e1 : (af == bf) with
  | false =>
    go_enter Try.func123, Try.ntmps123
    go_wp2
    go_ret
    exact ⟨rfl, HB.out⟩
  | true =>
    cases e2 : decide (aq ≤ bq) with
    | false =>
      go_enter Try.func123, Try.ntmps123
      go_wp2
      go_ret
      exact ⟨rfl, HB.out⟩
    | true =>
      cases e3 : decide (bst ≤ ast) with
      | false =>
        go_enter Try.func123, Try.ntmps123
        go_wp2
        go_ret
        exact ⟨rfl, HB.out⟩
      | true =>
        go_enter Try.func123, Try.ntmps123
        go_wp2
        go_ret
        exact ⟨rfl, HB.out⟩
/-- A promise in a block of its own. -/
def PmB (w : World) (g : Nat) (a : Pm) : Prop := Own w g 158 #[.int .i64 a.frm, .int .u64 (a.st : Int), .int .u32 (a.sn : Int)]
theorem PmB.own {w : World} {g : Nat} {a : Pm} (h : PmB w g a) : Own w g 158 #[.int .i64 a.frm, .int .u64 (a.st : Int), .int .u32 (a.sn : Int)] := h
theorem PmB.new (w : World) (a : Pm) : PmB (w.alloc (.cells #[.int .i64 a.frm, .int .u64 (a.st : Int), .int .u32 (a.sn : Int)] 158)) w.heap.size a := Own.new w _ _
theorem PmB.later {w w' : World} {g : Nat} {a : Pm} (h : PmB w g a) (hb : Below w.heap.size w w') : PmB w' g a := (hb.block g h.own.lt).trans h
theorem PmB.grown {w w' : World} {g : Nat} {a : Pm} {o : Option Nat} (h : PmB w g a) (hg : w.grownBy w' o) (ho : some g ≠ o) : PmB w' g a := (hg.block g h.own.lt ho).trans h
theorem PmB.rng {w : World} {g : Nat} {a : Pm} (h : PmB w g a) : w.rangeAt g 0 (encP a) := fun q v hv => by rw [Nat.zero_add]; exact h.own.at_ q v (by rw [List.getElem?_toArray]; exact hv)
set_option maxHeartbeats 2000000 in
theorem zwaitC (a n : Pm) (W : World) (bn : Nat) (h : PmB W bn n) :
    Calls Try.prog 122 #[.agg #[.int .i64 a.frm, .int .u64 (a.st : Int), .int .u32 (a.sn : Int)], .pointer (some ⟨bn, 0, none⟩)] W fun e w' => e = .returned (.bool (coversP a n)) ∧ Below W.heap.size W w' := by
  have B := ((Grw.refl W).alloc (.cells #[.int .i64 a.frm, .int .u64 (a.st : Int), .int .u32 (a.sn : Int)] 158)).below
  have HN := h.later B
  have K := zcovers a n (W.alloc (.cells #[.int .i64 a.frm, .int .u64 (a.st : Int), .int .u32 (a.sn : Int)] 158))
  have HR := Lib.hid HN.rng
  have HB := Lib.hid B
  generalize coversP a n = z at *
  clear h HN B
  go_enter Try.func122, Try.ntmps122
  go_wp2_with (first | (with_reducible refine load_pm rfl (.tmp 1) rfl bn 0 n rfl HR.out ?_) | fail)
  refine K.mono ?_
  rintro e w' ⟨rfl, hb⟩
  go_wp2
  go_ret
  exact ⟨rfl, HB.out.trans (hb.mono HB.out.size)⟩
set_option maxHeartbeats 4000000 in
theorem zdone (a : Pm) (W : World) (bp bm g k : Nat) (p : Int) (hd : Nat) (h1 : W.cell? ⟨bp, 0, none⟩ = some (.int .i64 p)) (h2 : W.cell? ⟨bm, 0, none⟩ = some (.pointer (some ⟨g, 2 + k * 3, none⟩))) (h3 : W.cell? ⟨g, 2 + k * 3, none⟩ = some (.int .u64 (hd : Int))) :
    Calls Try.prog 125 #[.agg #[.int .i64 a.frm, .int .u64 (a.st : Int), .int .u32 (a.sn : Int)], .pointer (some ⟨bp, 0, none⟩), .pointer (some ⟨bm, 0, none⟩)] W fun e w' => e = .returned (.bool (doneP p hd a)) ∧ Below W.heap.size W w' := by
  have B := ((Grw.refl W).alloc (.cells #[.int .i64 a.frm, .int .u64 (a.st : Int), .int .u32 (a.sn : Int)] 158)).below
  have A := PmB.new W a
  have k1 := cell_later B h1
  have k2 := cell_later B h2
  have k3 := cell_later B h3
  have a0 := A.own.at_ 0 _ rfl
  have a1 := A.own.at_ 1 _ rfl
  have HB := Lib.hid (fun n => B.trans (((Grw.refl _).drewN n).below.mono B.size))
  rw [doneP_cast]
  obtain ⟨af, ast, aq⟩ := a
  simp only at *
  clear h1 h2 h3 A B
  cases e1 : (af == p) with
  | false =>
    go_enter Try.func125, Try.ntmps125
    go_upto_region 1 with fail
    generalize W.alloc (.cells #[.int .i64 af, .int .u64 (ast : Int), .int .u32 (aq : Int)] 158) = V at *
    generalize hq : W.heap.size = q at *
    have HQ := Lib.hid hq
    clear hq
    go_quiet (fail)
    go_wp2
    go_ret
    exact ⟨rfl, by rw [HQ.out]; exact HB.out _⟩
  | true =>
    cases e2 : decide (ast ≤ hd) with
    | false =>
      go_enter Try.func125, Try.ntmps125
      go_upto_region 1 with fail
      generalize W.alloc (.cells #[.int .i64 af, .int .u64 (ast : Int), .int .u32 (aq : Int)] 158) = V at *
      generalize hq : W.heap.size = q at *
      have HQ := Lib.hid hq
      clear hq
      go_quiet (fail)
      go_wp2
      go_ret
      exact ⟨rfl, by rw [HQ.out]; exact HB.out _⟩
    | true =>
      go_enter Try.func125, Try.ntmps125
      go_upto_region 1 with fail
      generalize W.alloc (.cells #[.int .i64 af, .int .u64 (ast : Int), .int .u32 (aq : Int)] 158) = V at *
      generalize hq : W.heap.size = q at *
      have HQ := Lib.hid hq
      clear hq
      go_quiet (fail)
      go_wp2
      go_ret
      exact ⟨rfl, by rw [HQ.out]; exact HB.out _⟩
end Go.Proofs.Ytfocjcdfpnbkjaa
