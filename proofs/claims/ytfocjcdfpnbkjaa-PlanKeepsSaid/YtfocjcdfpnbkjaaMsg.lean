/- Messages as values; the contracts of Of and messages; the document's Less, ConfLess, sign, Compare, Confs, Of. -/
import Derived.Test.YtfocjcdfpnbkjaaOrders
import Derived.Test.YtfocjcdfpnbkjaaSAll
import Derived.Shelf.SlSortCmp.KitK
set_option linter.unusedVariables false
set_option linter.unusedSimpArgs false
namespace Go.Proofs.Ytfocjcdfpnbkjaa
open Go.RowKit Go.Sort

def Mg.key (m : Mg) : K := ⟨m.s, m.f⟩
theorem of12_any (m : Mg) (w : World) : Calls Try.prog 31 #[.agg (encG m).toArray] w fun e w' => e = .returned (.agg #[.int .u64 m.key.n, .int .i64 m.key.p]) ∧ Grw w w' := by
  obtain ⟨f, q, s, v, a, dl, dc, deps, text⟩ := m
  show Calls Try.prog 31 #[.agg #[.int .i64 f, .int .u32 q, .int .u64 s, .int .i64 v, .slice a dl dc, .string text]] w fun e w' => e = .returned (.agg #[.int .u64 s, .int .i64 f]) ∧ Grw w w'
  go_enter Try.func31, Try.ntmps31
  go_wp2
  exact bodyPost_ret (v := .agg #[.int .u64 s, .int .i64 f]) (by simp [results, Try.results31, go_sem]) rfl ⟨rfl, ((Grw.refl _).alloc _).alloc _⟩
theorem refOf12_any (m : Mg) (w : World) : Calls Try.prog 79 #[.agg (encG m).toArray] w fun e w' => e = .returned (.agg #[.int .u64 m.key.n, .int .i64 m.key.p]) ∧ Grw w w' := by
  obtain ⟨f, q, s, v, a, dl, dc, deps, text⟩ := m
  show Calls Try.prog 79 #[.agg #[.int .i64 f, .int .u32 q, .int .u64 s, .int .i64 v, .slice a dl dc, .string text]] w fun e w' => e = .returned (.agg #[.int .u64 s, .int .i64 f]) ∧ Grw w w'
  go_enter Try.func79, Try.ntmps79
  go_wp2
  exact bodyPost_ret (v := .agg #[.int .u64 s, .int .i64 f]) (by simp [results, Try.results79, go_sem]) rfl ⟨rfl, ((Grw.refl _).alloc _).alloc _⟩

set_option maxHeartbeats 1000000 in
theorem messages_any (x y : Mg) (w : World) : Calls Try.prog 135 #[.agg (encG x).toArray, .agg (encG y).toArray] w fun e w' => e = .returned (.int .i64 (kcmp x.key y.key)) ∧ Grw w w' := by
  have ho : ∀ (f q s v : Int) (a : Option Addr) (dl dc : Nat) (text : ByteArray) W, Calls Try.prog 31 #[.agg #[.int .i64 f, .int .u32 q, .int .u64 s, .int .i64 v, .slice a dl dc, .string text]] W fun e w' => e = .returned (.agg #[.int .u64 s, .int .i64 f]) ∧ Grw W w' :=
    fun f q s v a dl dc text W => of12_any ⟨f, q, s, v, a, dl, dc, [], text⟩ W
  have hc : ∀ W, Calls Try.prog 30 #[.agg #[.int .u64 x.s, .int .i64 x.f], .agg #[.int .u64 y.s, .int .i64 y.f]] W fun e w' => e = .returned (.int .i64 (kcmp x.key y.key)) ∧ Grw W w' := compare_any x.key y.key
  generalize kcmp x.key y.key = r at hc ⊢
  obtain ⟨f, q, s, v, a, dl, dc, deps, text⟩ := x
  obtain ⟨f', q', s', v', a', dl', dc', deps', text'⟩ := y
  simp only [encG] at hc ⊢
  have mixed : Try.prog.follows .mixedOrders = true := by kernel_rfl
  go_enter Try.func135, Try.ntmps135
  go_wp2
  generalize hW : ((w.alloc (.cells #[.int .i64 f, .int .u32 q, .int .u64 s, .int .i64 v, .slice a dl dc, .string text] 47)).alloc (.cells #[.int .i64 f', .int .u32 q', .int .u64 s', .int .i64 v', .slice a' dl' dc', .string text'] 47)) = W
  have hz : W.heap.size = w.heap.size + 2 := by rw [← hW]; simp
  have a0 : ∀ n os, (grow (W.drewN n) os).cell? ⟨w.heap.size, 0, none⟩ = some (.int .i64 f) := cell_grown (by rw [hz]; show w.heap.size < w.heap.size + 2; omega) (by rw [← hW]; simp)
  have a1 : ∀ n os, (grow (W.drewN n) os).cell? ⟨w.heap.size, 1, none⟩ = some (.int .u32 q) := cell_grown (by rw [hz]; show w.heap.size < w.heap.size + 2; omega) (by rw [← hW]; simp)
  have a2 : ∀ n os, (grow (W.drewN n) os).cell? ⟨w.heap.size, 2, none⟩ = some (.int .u64 s) := cell_grown (by rw [hz]; show w.heap.size < w.heap.size + 2; omega) (by rw [← hW]; simp)
  have a3 : ∀ n os, (grow (W.drewN n) os).cell? ⟨w.heap.size, 3, none⟩ = some (.int .i64 v) := cell_grown (by rw [hz]; show w.heap.size < w.heap.size + 2; omega) (by rw [← hW]; simp)
  have a4 : ∀ n os, (grow (W.drewN n) os).cell? ⟨w.heap.size, 4, none⟩ = some (.slice a dl dc) := cell_grown (by rw [hz]; show w.heap.size < w.heap.size + 2; omega) (by rw [← hW]; simp)
  have a5 : ∀ n os, (grow (W.drewN n) os).cell? ⟨w.heap.size, 5, none⟩ = some (.string text) := cell_grown (by rw [hz]; show w.heap.size < w.heap.size + 2; omega) (by rw [← hW]; simp)
  have b0 : ∀ n os, (grow (W.drewN n) os).cell? ⟨w.heap.size + 1, 0, none⟩ = some (.int .i64 f') := cell_grown (by rw [hz]; show w.heap.size + 1 < w.heap.size + 2; omega) (by rw [← hW]; simp)
  have b1 : ∀ n os, (grow (W.drewN n) os).cell? ⟨w.heap.size + 1, 1, none⟩ = some (.int .u32 q') := cell_grown (by rw [hz]; show w.heap.size + 1 < w.heap.size + 2; omega) (by rw [← hW]; simp)
  have b2 : ∀ n os, (grow (W.drewN n) os).cell? ⟨w.heap.size + 1, 2, none⟩ = some (.int .u64 s') := cell_grown (by rw [hz]; show w.heap.size + 1 < w.heap.size + 2; omega) (by rw [← hW]; simp)
  have b3 : ∀ n os, (grow (W.drewN n) os).cell? ⟨w.heap.size + 1, 3, none⟩ = some (.int .i64 v') := cell_grown (by rw [hz]; show w.heap.size + 1 < w.heap.size + 2; omega) (by rw [← hW]; simp)
  have b4 : ∀ n os, (grow (W.drewN n) os).cell? ⟨w.heap.size + 1, 4, none⟩ = some (.slice a' dl' dc') := cell_grown (by rw [hz]; show w.heap.size + 1 < w.heap.size + 2; omega) (by rw [← hW]; simp)
  have b5 : ∀ n os, (grow (W.drewN n) os).cell? ⟨w.heap.size + 1, 5, none⟩ = some (.string text') := cell_grown (by rw [hz]; show w.heap.size + 1 < w.heap.size + 2; omega) (by rw [← hW]; simp)
  have G : Grw w W := by rw [← hW]; exact ((Grw.refl _).alloc _).alloc _
  have HG := Lib.hid G
  clear hW hz G
  go_quiet_grown (first
    | (go_at_call 31; exact Calls.grown_of (ho _ _ _ _ _ _ _ _ _))
    | (go_at_call 30; exact Calls.grown_of (hc _)))
  go_wp2
  go_ret
  exact ⟨rfl, HG.out.trans ⟨nq, osq, rfl⟩⟩

theorem cmpLays (blk off size : Nat) (w : World) : Go.Proofs.CmpLays Try.prog 135 #[] encG 6 (fun x y => kcmp x.key y.key) blk off size w :=
  fun _ _ _ _ x y => messages_any x y _

set_option maxHeartbeats 1000000 in
theorem less12_any (a b : K) (w : World) : Calls Try.prog 78 #[.agg #[.int .u64 a.n, .int .i64 a.p], .agg #[.int .u64 b.n, .int .i64 b.p]] w fun e w' => e = .returned (.bool (a.less b)) ∧ Grw w w' := by
  obtain ⟨an, ap⟩ := a
  obtain ⟨bn, bp⟩ := b
  show Calls Try.prog 78 #[.agg #[.int .u64 an, .int .i64 ap], .agg #[.int .u64 bn, .int .i64 bp]] w fun e w' => e = .returned (.bool (K.less ⟨an, ap⟩ ⟨bn, bp⟩)) ∧ Grw w w'
  by_cases h1 : an < bn
  · have hr : K.less ⟨an, ap⟩ ⟨bn, bp⟩ = true := (K.less_iff _ _).2 (.inl h1)
    rw [hr]
    clear hr
    go_enter Try.func78, Try.ntmps78
    go_wp2
    go_ret
    exact ⟨rfl, ((Grw.refl _).alloc _).alloc _⟩
  · by_cases h2 : an = bn
    · subst h2
      by_cases h3 : ap < bp
      · have hr : K.less ⟨an, ap⟩ ⟨an, bp⟩ = true := (K.less_iff _ _).2 (.inr ⟨rfl, h3⟩)
        rw [hr]
        clear hr h1
        go_enter Try.func78, Try.ntmps78
        go_wp2
        go_ret
        exact ⟨rfl, ((Grw.refl _).alloc _).alloc _⟩
      · have hr : K.less ⟨an, ap⟩ ⟨an, bp⟩ = false := (K.less_not _ _).2 (.inr ⟨rfl, by simp only; omega⟩)
        rw [hr]
        clear hr h1
        go_enter Try.func78, Try.ntmps78
        go_wp2
        go_ret
        exact ⟨rfl, ((Grw.refl _).alloc _).alloc _⟩
    · have hr : K.less ⟨an, ap⟩ ⟨bn, bp⟩ = false := (K.less_not _ _).2 (.inl (by simp only; omega))
      rw [hr]
      clear hr
      go_enter Try.func78, Try.ntmps78
      go_wp2
      go_ret
      exact ⟨rfl, ((Grw.refl _).alloc _).alloc _⟩

end Go.Proofs.Ytfocjcdfpnbkjaa
