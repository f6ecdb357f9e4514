/- What the laws' walks share. -/
import Derived.Test.YtncldnenlchpnaaHzOpen
set_option linter.unusedVariables false
set_option linter.unusedSimpArgs false
namespace Go.Proofs.Ytncldnenlchpnaa
open Go.RowKit Go.Sort Go.Shelf

theorem load_za {ops : Array Oper} {rest : List Oper} {o : Oper} {A : Act} {w : World} {Q : Exit → Act → World → Prop} (hgd : o.guard = none) (x : Operand) (ho : o.op = .load 32 x)
    (b q : Nat) (a : ZA) (hx : A.eval x = .pointer (some ⟨b, q, none⟩)) (hc : w.rangeAt b q (encZ a))
    (h : wpList Try.prog ops Q rest (A.put o.dst (.agg #[.int .i64 a.kind, .int .i64 a.p, .int .u32 (a.seq : Int), .int .u64 (a.st : Int)])) w) : wpList Try.prog ops Q (o :: rest) A w :=
  wpList_load_mid hgd 32 x ho b q hx (encZ a) _ hc Try.underlying32 rfl (by kernel_rfl) h
theorem za_range {w : World} {b o : Nat} {l : List ZA} (h : RowAt encZ 4 w b o l) (k : Nat) (a : ZA) (hk : l[k]? = some a) : w.rangeAt b (o + k * 4) (encZ a) := fun j v hj => h k a hk j v hj
theorem NewZ.later {w w1 w2 : World} {g : Nat} {H : Hz} (h : NewZ w w1 g H) (hb : Below w1.heap.size w1 w2) : NewZ w w2 g H := by
  obtain ⟨s, h1, h2⟩ := h
  exact ⟨s, h1.below hb, h2.trans (hb.mono h2.size)⟩
theorem NewZ.below {w w1 : World} {g : Nat} {H : Hz} (h : NewZ w w1 g H) : Below w.heap.size w w1 := by
  obtain ⟨s, _, h2⟩ := h
  exact h2
theorem NewZ.ok {w w1 : World} {g : Nat} {H : Hz} (h : NewZ w w1 g H) : H.ok := by
  obtain ⟨s, h1, _⟩ := h
  exact h1.ok
theorem NewZ.all {w w1 : World} {g : Nat} {H : Hz} (h : NewZ w w1 g H) : Calls Try.prog 9 #[.pointer (some ⟨g, 0, none⟩)] w1 fun e w' => e = .returned (.int .u64 (allN H : Nat)) ∧ w1 = w' := by
  obtain ⟨s, h1, _⟩ := h
  exact zall h1
theorem NewZ.safe {w w1 : World} {g : Nat} {H : Hz} (h : NewZ w w1 g H) : Calls Try.prog 10 #[.pointer (some ⟨g, 0, none⟩)] w1 fun e w' => e = .returned (.int .u64 (safeN H : Nat)) ∧ w1 = w' := by
  obtain ⟨s, h1, _⟩ := h
  exact zsafe h1
theorem NewZ.clk {w w1 : World} {g : Nat} {H : Hz} (h : NewZ w w1 g H) : Calls Try.prog 11 #[.pointer (some ⟨g, 0, none⟩)] w1 fun e w' => e = .returned (.int .u64 (H.clock : Nat)) ∧ w1 = w' := by
  obtain ⟨s, h1, _⟩ := h
  exact zclock h1
theorem NewZ.act {w w1 : World} {g : Nat} {H : Hz} (h : NewZ w w1 g H) (hn : H.wait.length ≤ 99999) (a : ZA) (ha : a.ok) :
    Calls Try.prog 12 #[.pointer (some ⟨g, 0, none⟩), .agg #[.int .i64 a.kind, .int .i64 a.p, .int .u32 (a.seq : Int), .int .u64 (a.st : Int)]] w1 fun e w' => e = .returned (.int .u64 (ansZ H a : Nat)) ∧ NewZ w w' g (stepZ H a) := by
  obtain ⟨s, h1, h2⟩ := h
  exact (zdo h1 hn a ha).mono fun e w' ⟨he, hg⟩ => ⟨he, NewZ.gone h1 h2 hg⟩
theorem NewZ.made (me : Int) (s : Nat) {w w1 : World} (hL : Below w.heap.size w w1) (hs : s < 18446744073709551616) (m0 : -9223372036854775808 ≤ me) (m1 : me ≤ 9223372036854775807) :
    Calls Try.prog 8 #[.int .i64 me, .int .u64 (s : Int)] w1 fun e w' => e = .returned (.pointer (some ⟨w1.heap.size + 1, 0, none⟩)) ∧ NewZ w w' (w1.heap.size + 1) (newZ me s) :=
  (znew me s w1 hs m0 m1).mono fun e w' ⟨he, h1, h2⟩ => ⟨he, _, ⟨h1.own, h1.row, by have := hL.size; omega, (fun x hx => by cases hx), h1.ok⟩, hL.trans (h2.mono hL.size)⟩
theorem run_few (H : Hz) (l : List ZA) (k N : Nat) (h0 : H.wait.length = 0) (hk : k ≤ N) : (runZ H (l.take k)).wait.length ≤ N := by
  have := run_wait (l.take k) H
  rw [List.length_take] at this
  omega
end Go.Proofs.Ytncldnenlchpnaa
