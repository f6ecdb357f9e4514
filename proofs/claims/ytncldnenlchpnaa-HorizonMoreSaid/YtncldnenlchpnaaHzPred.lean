/- The predicates: covers, and the two closures. -/
import Derived.Test.YtncldnenlchpnaaHzFns
set_option linter.unusedVariables false
set_option linter.unusedSimpArgs false
namespace Go.Proofs.Ytncldnenlchpnaa
open Go.RowKit Go.Sort Go.Shelf

theorem coversP_cast (a b : Pm) : coversP a b = (((a.frm == b.frm) && decide (a.sn ≤ b.sn)) && decide (b.st ≤ a.st)) := rfl
theorem doneP_cast (p : Int) (h : Nat) (a : Pm) : doneP p h a = ((a.frm == p) && decide (a.st ≤ h)) := rfl
theorem hits_cast (p : Int) (c : Nat) (a : Pm) : hits p c a = ((a.frm == p) && decide (a.sn ≤ c)) := rfl
set_option maxHeartbeats 4000000 in
theorem zcovers (a b : Pm) (W : World) :
    Calls Try.prog 33 #[.agg #[.int .i64 a.frm, .int .u64 (a.st : Int), .int .u32 (a.sn : Int)], .agg #[.int .i64 b.frm, .int .u64 (b.st : Int), .int .u32 (b.sn : Int)]] W fun e w' => e = .returned (.bool (coversP a b)) ∧ Below W.heap.size W w' := by
  have HB := Lib.hid (((Grw.refl W).alloc (.cells #[.int .i64 a.frm, .int .u64 (a.st : Int), .int .u32 (a.sn : Int)] 59)).alloc (.cells #[.int .i64 b.frm, .int .u64 (b.st : Int), .int .u32 (b.sn : Int)] 59)).below
  rw [coversP_cast]
  obtain ⟨af, ast, aq⟩ := a
  obtain ⟨bf, bst, bq⟩ := b
  simp only at *
  cases e1 : (af == bf) with
  | false =>
    go_enter Try.func33, Try.ntmps33
    go_wp2
    go_ret
    exact ⟨rfl, HB.out⟩
  | true =>
    cases e2 : decide (aq ≤ bq) with
    | false =>
      go_enter Try.func33, Try.ntmps33
      go_wp2
      go_ret
      exact ⟨rfl, HB.out⟩
    | true =>
      cases e3 : decide (bst ≤ ast) with
      | false =>
        go_enter Try.func33, Try.ntmps33
        go_wp2
        go_ret
        exact ⟨rfl, HB.out⟩
      | true =>
        go_enter Try.func33, Try.ntmps33
        go_wp2
        go_ret
        exact ⟨rfl, HB.out⟩
/-- A promise in a block of its own. -/
def PmB (w : World) (g : Nat) (a : Pm) : Prop := Own w g 59 #[.int .i64 a.frm, .int .u64 (a.st : Int), .int .u32 (a.sn : Int)]
theorem PmB.own {w : World} {g : Nat} {a : Pm} (h : PmB w g a) : Own w g 59 #[.int .i64 a.frm, .int .u64 (a.st : Int), .int .u32 (a.sn : Int)] := h
theorem PmB.new (w : World) (a : Pm) : PmB (w.alloc (.cells #[.int .i64 a.frm, .int .u64 (a.st : Int), .int .u32 (a.sn : Int)] 59)) w.heap.size a := Own.new w _ _
theorem PmB.later {w w' : World} {g : Nat} {a : Pm} (h : PmB w g a) (hb : Below w.heap.size w w') : PmB w' g a := (hb.block g h.own.lt).trans h
theorem PmB.grown {w w' : World} {g : Nat} {a : Pm} {o : Option Nat} (h : PmB w g a) (hg : w.grownBy w' o) (ho : some g ≠ o) : PmB w' g a := (hg.block g h.own.lt ho).trans h
theorem PmB.rng {w : World} {g : Nat} {a : Pm} (h : PmB w g a) : w.rangeAt g 0 (encP a) := fun q v hv => by rw [Nat.zero_add]; exact h.own.at_ q v (by rw [List.getElem?_toArray]; exact hv)
set_option maxHeartbeats 2000000 in
theorem zwaitC (a n : Pm) (W : World) (bn : Nat) (h : PmB W bn n) :
    Calls Try.prog 32 #[.agg #[.int .i64 a.frm, .int .u64 (a.st : Int), .int .u32 (a.sn : Int)], .pointer (some ⟨bn, 0, none⟩)] W fun e w' => e = .returned (.bool (coversP a n)) ∧ Below W.heap.size W w' := by
  have B := ((Grw.refl W).alloc (.cells #[.int .i64 a.frm, .int .u64 (a.st : Int), .int .u32 (a.sn : Int)] 59)).below
  have HN := h.later B
  have K := zcovers a n (W.alloc (.cells #[.int .i64 a.frm, .int .u64 (a.st : Int), .int .u32 (a.sn : Int)] 59))
  have HR := Lib.hid HN.rng
  have HB := Lib.hid B
  generalize coversP a n = z at *
  clear h HN B
  go_enter Try.func32, Try.ntmps32
  go_wp2_with (first | (with_reducible refine load_pm rfl (.tmp 1) rfl bn 0 n rfl HR.out ?_) | fail)
  refine K.mono ?_
  rintro e w' ⟨rfl, hb⟩
  go_wp2
  go_ret
  exact ⟨rfl, HB.out.trans (hb.mono HB.out.size)⟩
set_option maxHeartbeats 4000000 in
theorem zdone (a : Pm) (W : World) (bp bm g k : Nat) (p : Int) (hd : Nat) (h1 : W.cell? ⟨bp, 0, none⟩ = some (.int .i64 p)) (h2 : W.cell? ⟨bm, 0, none⟩ = some (.pointer (some ⟨g, 2 + k * 3, none⟩))) (h3 : W.cell? ⟨g, 2 + k * 3, none⟩ = some (.int .u64 (hd : Int))) :
    Calls Try.prog 35 #[.agg #[.int .i64 a.frm, .int .u64 (a.st : Int), .int .u32 (a.sn : Int)], .pointer (some ⟨bp, 0, none⟩), .pointer (some ⟨bm, 0, none⟩)] W fun e w' => e = .returned (.bool (doneP p hd a)) ∧ Below W.heap.size W w' := by
  have B := ((Grw.refl W).alloc (.cells #[.int .i64 a.frm, .int .u64 (a.st : Int), .int .u32 (a.sn : Int)] 59)).below
  have A := PmB.new W a
  have k1 := cell_later B h1
  have k2 := cell_later B h2
  have k3 := cell_later B h3
  have a0 := A.own.at_ 0 _ rfl
  have a1 := A.own.at_ 1 _ rfl
  have HB := Lib.hid (fun n => B.trans (((Grw.refl _).drewN n).below.mono B.size))
  rw [doneP_cast]
  obtain ⟨af, ast, aq⟩ := a
  simp only at *
  clear h1 h2 h3 A B
  cases e1 : (af == p) with
  | false =>
    go_enter Try.func35, Try.ntmps35
    go_upto_region 1 with fail
    generalize W.alloc (.cells #[.int .i64 af, .int .u64 (ast : Int), .int .u32 (aq : Int)] 59) = V at *
    generalize hq : W.heap.size = q at *
    have HQ := Lib.hid hq
    clear hq
    go_quiet (fail)
    go_wp2
    go_ret
    exact ⟨rfl, by rw [HQ.out]; exact HB.out _⟩
  | true =>
    cases e2 : decide (ast ≤ hd) with
    | false =>
      go_enter Try.func35, Try.ntmps35
      go_upto_region 1 with fail
      generalize W.alloc (.cells #[.int .i64 af, .int .u64 (ast : Int), .int .u32 (aq : Int)] 59) = V at *
      generalize hq : W.heap.size = q at *
      have HQ := Lib.hid hq
      clear hq
      go_quiet (fail)
      go_wp2
      go_ret
      exact ⟨rfl, by rw [HQ.out]; exact HB.out _⟩
    | true =>
      go_enter Try.func35, Try.ntmps35
      go_upto_region 1 with fail
      generalize W.alloc (.cells #[.int .i64 af, .int .u64 (ast : Int), .int .u32 (aq : Int)] 59) = V at *
      generalize hq : W.heap.size = q at *
      have HQ := Lib.hid hq
      clear hq
      go_quiet (fail)
      go_wp2
      go_ret
      exact ⟨rfl, by rw [HQ.out]; exact HB.out _⟩
end Go.Proofs.Ytncldnenlchpnaa
