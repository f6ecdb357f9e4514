/- A call of a script, done by the closure of 'LinkCopies'. -/
import Derived.Test.YtlmajpckgjnbdaaLinkOpen
set_option linter.unusedVariables false
set_option linter.unusedSimpArgs false
namespace Go.Proofs.Ytlmajpckgjnbdaa
open Go.RowKit Go.Sort

/-- A call's block. -/
def LaB (w : World) (g : Nat) (a : LA) : Prop := Own w g 35 #[.int .i64 a.p, .int .i64 a.n, .int .u32 (a.seq : Int)]
theorem LaB.own {w : World} {g : Nat} {a : LA} (h : LaB w g a) : Own w g 35 #[.int .i64 a.p, .int .i64 a.n, .int .u32 (a.seq : Int)] := h
theorem LaB.new (w : World) (a : LA) : LaB (w.alloc (.cells #[.int .i64 a.p, .int .i64 a.n, .int .u32 (a.seq : Int)] 35)) w.heap.size a := Own.new w _ _
theorem LaB.lt {w : World} {g : Nat} {a : LA} (h : LaB w g a) : g < w.heap.size := h.own.lt
theorem LaB.below {w w' : World} {g : Nat} {a : LA} (h : LaB w g a) (hb : Below w.heap.size w w') : LaB w' g a := (hb.block g h.lt).trans h
theorem LaB.grown {w w' : World} {g : Nat} {a : LA} {o : Option Nat} (h : LaB w g a) (hb : w.grownBy w' o) (hk : some g ≠ o) : LaB w' g a := (hb.block g h.lt hk).trans h
theorem LaB.c0 {w : World} {g : Nat} {a : LA} (h : LaB w g a) : w.cell? ⟨g, 0, none⟩ = some (.int .i64 a.p) := h.own.at_ 0 _ rfl
theorem LaB.c1 {w : World} {g : Nat} {a : LA} (h : LaB w g a) : w.cell? ⟨g, 1, none⟩ = some (.int .i64 a.n) := h.own.at_ 1 _ rfl
theorem LaB.c2 {w : World} {g : Nat} {a : LA} (h : LaB w g a) : w.cell? ⟨g, 2, none⟩ = some (.int .u32 (a.seq : Int)) := h.own.at_ 2 _ rfl
theorem lact_at {w : World} {b o : Nat} {l : List LA} (h : RowAt encL 3 w b o l) (k : Nat) (a : LA) (hk : l[k]? = some a) :
    w.cell? ⟨b, o + k * 3, none⟩ = some (.int .i64 a.p) ∧ w.cell? ⟨b, o + k * 3 + 1, none⟩ = some (.int .i64 a.n) ∧ w.cell? ⟨b, o + k * 3 + 2, none⟩ = some (.int .u32 (a.seq : Int)) :=
  ⟨h k a hk 0 _ rfl, h k a hk 1 _ rfl, h k a hk 2 _ rfl⟩
set_option maxHeartbeats 4000000 in
theorem ldo {w : World} {g : Nat} {W : Wn} (h : LkAt w g W) (a : LA) (ha : a.ok) (hs : W.sent ≤ 1000000) :
    Calls Try.prog 27 #[.pointer (some ⟨g, 0, none⟩), .agg #[.int .i64 a.p, .int .i64 a.n, .int .u32 (a.seq : Int)]] w fun e w' => e = .returned (.tuple #[]) ∧ Linked w w' g (stepL W a) := by
  have B := ((Grw.refl w).alloc (.cells #[.int .i64 a.p, .int .i64 a.n, .int .u32 (a.seq : Int)] 35)).below
  have A := h.below B
  have HA := LaB.new w a
  have c0 := HA.c0
  have c1 := HA.c1
  have c2 := HA.c2
  by_cases hp : a.p < 0
  · have HN := lnext A a.n ha.n0 ha.n1 hs
    rw [stepL_next hp]
    have hd : decide (a.p < 0) = true := by simp [hp]
    have HN := Lib.hid HN
    have HB := Lib.hid B
    clear h A HA B hs c2 hp
    go_enter Try.func27, Try.ntmps27
    go_wp2_with (go_at_call 12; refine HN.out.mono ?_; rintro e w' ⟨rfl, K⟩)
    go_end0
    exact ⟨rfl, Linked.below HB.out K⟩
  · have HN := lgot A a.p ha.p0 ha.p1 a.seq ha.s
    rw [stepL_got (by omega)]
    have hd : decide (a.p < 0) = false := by simp; omega
    have HN := Lib.hid HN
    have HB := Lib.hid B
    clear h A HA B hs c1 hp
    go_enter Try.func27, Try.ntmps27
    go_wp2_with (go_at_call 14; refine HN.out.mono ?_; rintro e w' ⟨rfl, K⟩)
    go_end0
    exact ⟨rfl, Linked.below HB.out K⟩
end Go.Proofs.Ytlmajpckgjnbdaa
