/- The contracts of the document's own two orders: Compare, Confs. -/
import Derived.Test.YtekgkeapdlgobaaMsg
set_option linter.unusedVariables false
set_option linter.unusedSimpArgs false
namespace Go.Proofs.Ytekgkeapdlgobaa
open Go.RowKit Go.Sort

/-- Does a key come ahead of another one, by their numbers? -/
def lessB (an ap bn bp : Int) : Bool := K.less ⟨an, ap⟩ ⟨bn, bp⟩

set_option maxHeartbeats 1000000 in
theorem refCompare_any (a b : K) (w : World) : Calls Try.prog 11 #[.agg #[.int .u64 a.n, .int .i64 a.p], .agg #[.int .u64 b.n, .int .i64 b.p]] w fun e w' => e = .returned (.int .i64 (kcmp a b)) ∧ Grw w w' := by
  obtain ⟨an, ap⟩ := a
  obtain ⟨bn, bp⟩ := b
  have hl : ∀ (an ap bn bp : Int) W, Calls Try.prog 30 #[.agg #[.int .u64 an, .int .i64 ap], .agg #[.int .u64 bn, .int .i64 bp]] W fun e w' => e = .returned (.bool (lessB an ap bn bp)) ∧ Grw W w' := fun an ap bn bp => less_any ⟨an, ap⟩ ⟨bn, bp⟩
  have hr : kcmp ⟨an, ap⟩ ⟨bn, bp⟩ = if lessB an ap bn bp then -1 else if lessB bn bp an ap then 1 else 0 := by
    unfold lessB
    cases h : K.less ⟨an, ap⟩ ⟨bn, bp⟩ with
    | true => rw [kcmp_lt h]; rfl
    | false =>
      cases h' : K.less ⟨bn, bp⟩ ⟨an, ap⟩ with
      | true => rw [kcmp_gt h']; rfl
      | false => rw [kcmp_eq h h']; rfl
  have hc : ∀ W, Calls Try.prog 29 #[.bool (lessB an ap bn bp), .bool (lessB bn bp an ap)] W fun e w' => e = .returned (.int .i64 (kcmp ⟨an, ap⟩ ⟨bn, bp⟩)) ∧ Grw W w' := fun W => (sg_any _ _ _ W hr).mono fun _ _ ⟨he, hw⟩ => ⟨he, hw ▸ Grw.refl _⟩
  clear hr
  generalize kcmp ⟨an, ap⟩ ⟨bn, bp⟩ = r at hc ⊢
  simp only at hc ⊢
  have mixed : Try.prog.follows .mixedOrders = true := by kernel_rfl
  go_enter Try.func11, Try.ntmps11
  go_wp2
  generalize hW : ((w.alloc (.cells #[.int .u64 an, .int .i64 ap] 24)).alloc (.cells #[.int .u64 bn, .int .i64 bp] 24)) = W
  have hz : W.heap.size = w.heap.size + 2 := by rw [← hW]; simp
  have a0 : ∀ n os, (grow (W.drewN n) os).cell? ⟨w.heap.size, 0, none⟩ = some (.int .u64 an) := cell_grown (by rw [hz]; show w.heap.size < w.heap.size + 2; omega) (by rw [← hW]; simp)
  have a1 : ∀ n os, (grow (W.drewN n) os).cell? ⟨w.heap.size, 1, none⟩ = some (.int .i64 ap) := cell_grown (by rw [hz]; show w.heap.size < w.heap.size + 2; omega) (by rw [← hW]; simp)
  have b0 : ∀ n os, (grow (W.drewN n) os).cell? ⟨w.heap.size + 1, 0, none⟩ = some (.int .u64 bn) := cell_grown (by rw [hz]; show w.heap.size + 1 < w.heap.size + 2; omega) (by rw [← hW]; simp)
  have b1 : ∀ n os, (grow (W.drewN n) os).cell? ⟨w.heap.size + 1, 1, none⟩ = some (.int .i64 bp) := cell_grown (by rw [hz]; show w.heap.size + 1 < w.heap.size + 2; omega) (by rw [← hW]; simp)
  have G : Grw w W := by rw [← hW]; exact ((Grw.refl _).alloc _).alloc _
  have HG := Lib.hid G
  clear hW hz G
  go_quiet_grown (first
    | (go_at_call 30; exact Calls.grown_of (hl _ _ _ _ _))
    | (go_at_call 29; exact Calls.grown_of (hc _)))
  go_wp2
  go_ret
  exact ⟨rfl, HG.out.trans ⟨nq, osq, rfl⟩⟩

set_option maxHeartbeats 1000000 in
theorem refConfs_any (a b : K) (w : World) : Calls Try.prog 13 #[.agg #[.int .u64 a.n, .int .i64 a.p], .agg #[.int .u64 b.n, .int .i64 b.p]] w fun e w' => e = .returned (.int .i64 (kcmp a b)) ∧ Grw w w' := by
  obtain ⟨an, ap⟩ := a
  obtain ⟨bn, bp⟩ := b
  have hl : ∀ (an ap bn bp : Int) W, Calls Try.prog 31 #[.agg #[.int .u64 an, .int .i64 ap], .agg #[.int .u64 bn, .int .i64 bp]] W fun e w' => e = .returned (.bool (lessB an ap bn bp)) ∧ Grw W w' := fun an ap bn bp => confLess_any ⟨an, ap⟩ ⟨bn, bp⟩
  have hr : kcmp ⟨an, ap⟩ ⟨bn, bp⟩ = if lessB an ap bn bp then -1 else if lessB bn bp an ap then 1 else 0 := by
    unfold lessB
    cases h : K.less ⟨an, ap⟩ ⟨bn, bp⟩ with
    | true => rw [kcmp_lt h]; rfl
    | false =>
      cases h' : K.less ⟨bn, bp⟩ ⟨an, ap⟩ with
      | true => rw [kcmp_gt h']; rfl
      | false => rw [kcmp_eq h h']; rfl
  have hc : ∀ W, Calls Try.prog 29 #[.bool (lessB an ap bn bp), .bool (lessB bn bp an ap)] W fun e w' => e = .returned (.int .i64 (kcmp ⟨an, ap⟩ ⟨bn, bp⟩)) ∧ Grw W w' := fun W => (sg_any _ _ _ W hr).mono fun _ _ ⟨he, hw⟩ => ⟨he, hw ▸ Grw.refl _⟩
  clear hr
  generalize kcmp ⟨an, ap⟩ ⟨bn, bp⟩ = r at hc ⊢
  simp only at hc ⊢
  have mixed : Try.prog.follows .mixedOrders = true := by kernel_rfl
  go_enter Try.func13, Try.ntmps13
  go_wp2
  generalize hW : ((w.alloc (.cells #[.int .u64 an, .int .i64 ap] 26)).alloc (.cells #[.int .u64 bn, .int .i64 bp] 26)) = W
  have hz : W.heap.size = w.heap.size + 2 := by rw [← hW]; simp
  have a0 : ∀ n os, (grow (W.drewN n) os).cell? ⟨w.heap.size, 0, none⟩ = some (.int .u64 an) := cell_grown (by rw [hz]; show w.heap.size < w.heap.size + 2; omega) (by rw [← hW]; simp)
  have a1 : ∀ n os, (grow (W.drewN n) os).cell? ⟨w.heap.size, 1, none⟩ = some (.int .i64 ap) := cell_grown (by rw [hz]; show w.heap.size < w.heap.size + 2; omega) (by rw [← hW]; simp)
  have b0 : ∀ n os, (grow (W.drewN n) os).cell? ⟨w.heap.size + 1, 0, none⟩ = some (.int .u64 bn) := cell_grown (by rw [hz]; show w.heap.size + 1 < w.heap.size + 2; omega) (by rw [← hW]; simp)
  have b1 : ∀ n os, (grow (W.drewN n) os).cell? ⟨w.heap.size + 1, 1, none⟩ = some (.int .i64 bp) := cell_grown (by rw [hz]; show w.heap.size + 1 < w.heap.size + 2; omega) (by rw [← hW]; simp)
  have G : Grw w W := by rw [← hW]; exact ((Grw.refl _).alloc _).alloc _
  have HG := Lib.hid G
  clear hW hz G
  go_quiet_grown (first
    | (go_at_call 31; exact Calls.grown_of (hl _ _ _ _ _))
    | (go_at_call 29; exact Calls.grown_of (hc _)))
  go_wp2
  go_ret
  exact ⟨rfl, HG.out.trans ⟨nq, osq, rfl⟩⟩
end Go.Proofs.Ytekgkeapdlgobaa
