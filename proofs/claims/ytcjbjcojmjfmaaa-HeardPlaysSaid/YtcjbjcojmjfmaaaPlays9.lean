/- Both ears in memory, side by side. -/
import Derived.Test.YtcjbjcojmjfmaaaRefAdd
import Derived.Test.YtcjbjcojmjfmaaaBel
import Derived.Test.YtcjbjcojmjfmaaaHeardEpochWalk
set_option linter.unusedVariables false
set_option linter.unusedSimpArgs false
namespace Go.Proofs.Ytcjbjcojmjfmaaa
open Go.RowKit Go.Sort

theorem RfAt.grown {w w' : World} {M : Rf} {ao : Option Addr} {g : Nat} (h : RfAt w M ao) (hg : w.grownBy w' (some g)) (hne : ∀ x, ao = some x → x.block ≠ g) : RfAt w' M ao := by
  refine ⟨⟨h.lst.size, fun hl => ?_⟩, h.ok, h.few⟩
  obtain ⟨b, o, e, R⟩ := h.lst.src hl
  refine ⟨b, o, e, fun i x hx c v hv => ?_⟩
  have h0 := R i x hx c v hv
  rw [← h0]
  exact World.cell?_of_block (hg.block b (World.block_lt_of_cell? _ _ h0) (by intro e'; cases e'; exact hne _ e rfl))
structure HpB (w wr : World) (g f cb : Nat) (E : Er) (M : Rf) (ao : Option Addr) (cap ce : Nat) (cr : Int) : Prop where
  ear : EarAt wr g E
  rf : RfB wr f M.me M.n M.timeout M.now (.slice ao M.all.length cap)
  at_ : RfAt wr M ao
  nil : ao = none → cap = 0
  far : ∀ x, ao = some x → x.block ≠ g ∧ x.block ≠ f
  conf : Own wr cb 25 #[.int .u64 (ce : Int), .int .i64 cr]
  below : Below w.heap.size w wr
structure HpF (w : World) (g f cb : Nat) : Prop where
  gf : g ≠ f
  gc : g ≠ cb
  fc : f ≠ cb
  gw : w.heap.size ≤ g
  fw : w.heap.size ≤ f
theorem HpB.later {w wr w' : World} {g f cb : Nat} {E : Er} {M : Rf} {ao : Option Addr} {cap ce : Nat} {cr : Int} (h : HpB w wr g f cb E M ao cap ce cr) (hb : Below wr.heap.size wr w') : HpB w w' g f cb E M ao cap ce cr :=
  ⟨h.ear.below hb, h.rf.below hb, h.at_.below hb, h.nil, h.far, h.conf.below hb h.conf.lt, h.below.trans (hb.mono h.below.size)⟩
theorem HpB.first {w wr w' : World} {g f cb : Nat} {E E' : Er} {M : Rf} {ao : Option Addr} {cap ce : Nat} {cr : Int} (h : HpB w wr g f cb E M ao cap ce cr) (m : Eared wr w' g E') (F : HpF w g f cb) : HpB w w' g f cb E' M ao cap ce cr :=
  ⟨m.at_, h.rf.grown m.gr (fun k hk => by cases hk; exact fun e => F.gf e.symm), h.at_.grown m.gr (fun x hx => (h.far x hx).1), h.nil, h.far, h.conf.grown m.gr (by intro e; cases e; exact F.gc rfl), Eared.later h.below m F.gw⟩
theorem HpB.tick {w wr : World} {g f cb : Nat} {E : Er} {M : Rf} {ao : Option Addr} {cap ce : Nat} {cr : Int} (h : HpB w wr g f cb E M ao cap ce cr) (F : HpF w g f cb) (hc : M.now ≤ 1000000) : HpB w (wr.setCell ⟨f, 3, none⟩ (.int .i64 (M.now + 1))) g f cb E { M with now := M.now + 1 } ao cap ce cr := by
  have hg : wr.grownBy (wr.setCell ⟨f, 3, none⟩ (.int .i64 (M.now + 1))) (some f) := egrown_cells f [_] 3 wr
  refine ⟨h.ear.grown hg (by intro e; cases e; exact F.gf rfl), h.rf.own.set 3 _, ?_, h.nil, h.far, h.conf.grown hg (by intro e; cases e; exact F.fc rfl), h.below.setCell F.fw _⟩
  have h1 := h.at_.grown hg (fun x hx => (h.far x hx).2)
  have ok := h1.ok
  exact ⟨h1.lst, ⟨ok.m0, ok.m1, ok.n0, ok.n1, ok.o0, ok.o1, by have := ok.c0; show 0 ≤ M.now + 1; omega, by show M.now + 1 ≤ _; omega, fun s hs => ⟨(ok.all s hs).a0, by have := (ok.all s hs).a1; show s.at_ ≤ M.now + 1; omega⟩⟩, h1.few⟩
theorem HpB.put {w wr w' : World} {g f cb : Nat} {E : Er} {M M' : Rf} {ao ao' : Option Addr} {cap cap' ce : Nat} {cr : Int} (h : HpB w wr g f cb E M ao cap ce cr) (F : HpF w g f cb) (R : RfAt w' M' ao') (hn : ao' = none → cap' = 0) (hf : ∀ x, ao' = some x → ao = some x ∨ wr.heap.size ≤ x.block) (hb : Below wr.heap.size wr w') :
    HpB w (w'.setRow f #[.int .i64 M'.me, .int .i64 M'.n, .int .i64 M'.timeout, .int .i64 M'.now, .slice ao' M'.all.length cap']) g f cb E M' ao' cap' ce cr := by
  have h1 := h.later hb
  have hgl := h.ear.lt
  have hfl := h.rf.lt
  have hfar : ∀ x, ao' = some x → x.block ≠ g ∧ x.block ≠ f := fun x hx => by
    rcases hf x hx with h' | h'
    · exact h.far x h'
    · exact ⟨by omega, by omega⟩
  have hg : w'.grownBy (w'.setRow f #[.int .i64 M'.me, .int .i64 M'.n, .int .i64 M'.timeout, .int .i64 M'.now, .slice ao' M'.all.length cap']) (some f) :=
    ⟨rfl, rfl, rfl, by rw [size_setRow]; exact Nat.le_refl _, fun k hk hn => setRow_other _ _ _ _ (by intro e; exact hn (by rw [e]))⟩
  exact ⟨h1.ear.grown hg (by intro e; cases e; exact F.gf rfl), h1.rf.put _ _ _ _ _, R.grown hg (fun x hx => (hfar x hx).2), hn, hfar, h1.conf.grown hg (by intro e; cases e; exact F.fc rfl), ebelowRow h1.below _ F.fw _⟩
theorem HaB.row {w : World} {k : Nat} {a : HA} (h : HaB w k a) (f : Nat) (cs : Array Value) (hk : k ≠ f) : HaB (w.setRow f cs) k a := (setRow_other _ _ _ _ hk).trans h
theorem HaB.cell {w : World} {k : Nat} {a : HA} (h : HaB w k a) (f j : Nat) (v : Value) (hk : k ≠ f) : HaB (w.setCell ⟨f, j, none⟩ v) k a := h.own.set_other _ _ _ hk
theorem form_below (W : World) (n : Nat) (os : Array Obj) : Below W.heap.size W (grow (atD W n) os) := below_of_form W n os
theorem build_beat (a b c d e : Int) (w : World) : (Instr.build 33 #[(0, .agg #[.int .u64 a, .int .i64 b]), (1, .agg #[.int .u64 c, .int .i64 d]), (2, .int .u64 e)]).run Try.prog w = .ok (.agg #[.int .u64 a, .int .i64 b, .int .u64 c, .int .i64 d, .int .u64 e]) w := by kernel_rfl
theorem bne_same (n : Nat) : ((n : Int) != (n : Int)) = false := by simp
end Go.Proofs.Ytcjbjcojmjfmaaa
