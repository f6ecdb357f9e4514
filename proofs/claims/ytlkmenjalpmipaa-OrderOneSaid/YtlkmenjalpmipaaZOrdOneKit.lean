/- Rows side by side: what OrderOne asks of them. -/
import Derived.Test.YtlkmenjalpmipaaZOrdFedAll
import Derived.Test.YtlkmenjalpmipaaZOrdRows
import Derived.Test.YtlkmenjalpmipaaZOrdAwake
import Derived.Test.YtlkmenjalpmipaaZRefSort
set_option linter.unusedVariables false
set_option maxRecDepth 100000
set_option linter.unusedSimpArgs false
namespace Go.Proofs.Ytlkmenjalpmipaa
open Go.RowKit Go.Sort Go.Shelf

theorem msg_elem14 : Try.prog.underlying 29 = some (.slice (Try.prog.elem 29)) := by kernel_rfl
theorem msg_sizeOf14 (w : World) : (sizeOf (Try.prog.elem 29)).run Try.prog w = .ok 6 w := by kernel_rfl
/-- A slice cut short. -/
theorem yields_cut {ops : Array Oper} {S : World → Prop} {op : Oper} {a : Act} (hw : Region.wanted op (yielded ops a.tmps) = true) (x y : Operand) (ho : op.op = .slice 29 x none (some y) none)
    (ad : Option Addr) (n c j : Nat) (hx : a.eval x = .slice ad n c) (hy : a.eval y = .int .i64 (j : Int)) (hj : j ≤ c) : YieldsIf Try.prog ops S op (.slice ad j c) a :=
  .inl ⟨hw, fun w _ => by
    have h1 := run_slice_h (P := Try.prog) w 29 ad n c msg_elem14 .i64 (j : Int) (by omega) (by omega)
    unfold execOp
    simp only [ho, hx, hy, Option.map, Sem.run_bind, run_sliceAt_slice _ _ _ _ _ _ msg_elem14, h1, msg_sizeOf14, Result.andThen_ok, sliced, Int.toNat_natCast, Nat.zero_mul, Nat.sub_zero]
    cases ad <;> simp [Addr.add]⟩
theorem lst_take14 {w : World} {a : Option Addr} {n j : Nat} {X : List Mg} (h : Lst encG 6 w a n X) (hj : j ≤ n) : Lst encG 6 w a j (X.take j) :=
  ⟨by rw [List.length_take, h.size]; omega, fun h0 => by
    obtain ⟨b, o, e, hr⟩ := h.src (show 0 < n by omega)
    refine ⟨b, o, e, fun i x hx => ?_⟩
    rw [List.getElem?_take] at hx
    split at hx
    · exact hr i x hx
    · cases hx⟩
/-- A row of a call's own, as one reads it. -/
structure Rw (w : World) (a : Option Addr) (n c : Nat) (X : List Mg) : Prop where
  lst : Lst encG 6 w a n X
  dps : ∀ x ∈ X, DpIn w x ∧ x.dl ≤ 1048576
  cap : n ≤ c
theorem RowO.rw {E : Nat → Prop} {B : Nat} {w : World} {a : Option Addr} {n c : Nat} {X : List Mg} (h : RowO E B w (.slice a n c) n X) : Rw w a n c X :=
  ⟨h.lst, h.dps, by
    rcases h.own.2 with ⟨e, _⟩ | ⟨g, cap, cur, e, _, _, hn, _⟩
    · injection e with _ e1 e2; omega
    · injection e with _ e1 e2; omega⟩
theorem Rw.below {w w' : World} {a : Option Addr} {n c : Nat} {X : List Mg} (h : Rw w a n c X) (hb : Below w.heap.size w w') : Rw w' a n c X :=
  ⟨Lst.below h.lst hb, fun x hx => ⟨(h.dps x hx).1.below hb, (h.dps x hx).2⟩, h.cap⟩
/-- Two beginnings of one row agree as far as both go. -/
theorem begun {X Y Z : List Mg} {k1 k2 m : Nat} (hx : X.map strip = Z.take k1) (hy : Y.map strip = Z.take k2) (h1 : m ≤ X.length) (h2 : m ≤ Y.length) : (X.take m).map strip = (Y.take m).map strip := by
  have e1 := congrArg List.length hx
  have e2 := congrArg List.length hy
  rw [List.length_map, List.length_take] at e1 e2
  rw [List.map_take, List.map_take, hx, hy, List.take_take, List.take_take]
  congr 1
  omega
theorem self_map {A Z : List Mg} (hA : Hon A) (hZ : IsSrt Mg.key A Z) : Z.map strip = Z := by
  have : ∀ x ∈ Z, strip x = x := fun x hx => hA.self x ((hZ.fil.mem x).1 hx)
  rw [List.map_congr_left (g := id) this, List.map_id]
end Go.Proofs.Ytlkmenjalpmipaa
