/- Drop. -/
import Derived.Test.YtpbeohonohcgdaaRNetDel
set_option linter.unusedVariables false
set_option linter.unusedSimpArgs false
namespace Go.Proofs.YtpbeohonohcgdaaR
open Go.RowKit Go.Sort

/-- The net's cells once its row is another one. -/
theorem cells_bag (N : Nt) (v v' : Value) (hl : N.links.length = 64) (R : List Dg) : (N.cells v).toArray.setIfInBounds 65 v' = (({ N with rows := R } : Nt).cells v').toArray := by
  rw [List.setIfInBounds_toArray]
  congr 1
  unfold Nt.cells
  rw [List.set_cons_succ, List.set_append_right _ _ (by simp [cellsU, hl])]
  simp [cellsU, hl]
theorem own_block (ao : Option Addr) (n c : Nat) (k : Nat) : some k ≠ (Value.slice ao n c).ownBlock ↔ ∀ a, ao = some a → k ≠ a.block := by
  cases ao with
  | none => simp [Value.ownBlock]
  | some a => simp [Value.ownBlock]
theorem NetAt.rowed {w w1 : World} {g B : Nat} {N : Nt} {ao : Option Addr} {cap : Nat} (h : NetAt w g B N ao cap) (hg : w.grownBy w1 (Value.slice ao N.rows.length cap).ownBlock) (R : List Dg) (n' : Nat) (hn : n' = R.length) (ao' : Option Addr) (cap' : Nat)
    (hr : w1.ownsRow B 28 4 (.slice ao' n' cap') n' (flat encD R)) (hown : ∀ a, ao' = some a → (∃ a0, ao = some a0 ∧ a0.block = a.block) ∨ w.heap.size ≤ a.block) (hok : ∀ d ∈ R, d.ok) (hfew : R.length ≤ 4096) :
    NetAt (w1.setCell ⟨g, 65, none⟩ (.slice ao' n' cap')) g B { N with rows := R } ao' cap' ∧ Moved w (w1.setCell ⟨g, 65, none⟩ (.slice ao' n' cap')) g ao ao' := by
  subst hn
  have hgb : some g ≠ (Value.slice ao N.rows.length cap).ownBlock := by
    rw [own_block]
    intro a e
    rcases h.spot with ⟨e1, _⟩ | ⟨b, e1, _, _, e2, _⟩
    · rw [e1] at e; cases e
    · rw [e1] at e; cases e; exact fun e3 => e2 e3.symm
  have ho : Own w1 g 56 (N.cells (.slice ao N.rows.length cap)).toArray := (hg.block g h.lt hgb).trans h.own
  have ho2 := ho.set 65 (.slice ao' R.length cap')
  rw [cells_bag N _ _ h.len R] at ho2
  refine ⟨⟨ho2, ?_, h.base, h.len, h.pr, h.lk, hok, hfew⟩, ⟨hg.os, hg.tape, hg.output, by simp only [World.setCell, Array.size_modify]; exact hg.size, fun k hk hkg ha => (heap_setCell_other w1 _ _ _ (by exact hkg)).trans (hg.block k hk ((own_block _ _ _ _).2 ha)), hown⟩⟩
  refine ⟨hr.1, ?_⟩
  rcases hr.2 with h1 | ⟨b, c, cur, h1, h2, h3, h4⟩
  · exact .inl h1
  · refine .inr ⟨b, c, cur, h1, h2, (heap_setCell_other w1 _ _ _ ?_).trans h3, h4⟩
    show b ≠ g
    rintro rfl
    have := ho.is.symm.trans h3
    injection this with e
    injection e with _ e _
    exact absurd e (by decide)

set_option maxHeartbeats 1000000 in
theorem ndrop_no {w : World} {g B : Nat} {N : Nt} {ao : Option Addr} {cap : Nat} (h : NetAt w g B N ao cap) (i : Int) (h0 : -9223372036854775808 ≤ i) (h1 : i ≤ 9223372036854775807) (hi : hasB N.rows.length i = false) :
    Calls Try.prog 25 #[.pointer (some ⟨g, 0, none⟩), .int .i64 i] w fun e w' => e = .returned (.bool false) ∧ w = w' := by
  have M := nhas h i h0 h1
  rw [hi] at M
  clear h hi
  go_enter Try.func25, Try.ntmps25
  go_wp2_with (go_at_call 32; refine M.mono ?_; rintro e w' ⟨rfl, rfl⟩)
  go_ret
  exact ⟨rfl, rfl⟩
set_option maxHeartbeats 1000000 in
theorem ndrop_yes {w : World} {g B : Nat} {N : Nt} {ao : Option Addr} {cap : Nat} (h : NetAt w g B N ao cap) (k : Nat) (hk : k < N.rows.length) :
    Calls Try.prog 25 #[.pointer (some ⟨g, 0, none⟩), .int .i64 (k : Nat)] w fun e w' => e = .returned (.bool true) ∧ NetAt w' g B { N with rows := N.rows.eraseIdx k } ao cap ∧ Moved w w' g ao ao := by
  have HB : hasB N.rows.length (k : Int) = true := by unfold hasB; simp; exact hk
  have M := nhas h (k : Int) (by omega) (by have := h.few; omega)
  rw [HB] at M
  have hrow := h.row
  have hfew := h.few
  have hgl := h.lt
  have c := h.bag
  have fr := h.free 65
  have HH := Lib.hid (@NetAt.rowed w · g B N ao cap h)
  have HO := Lib.hid h.ok
  rcases h.spot with ⟨_, _, e⟩ | ⟨b, rfl, hb1, hb2, hb3, hb4, hb5⟩
  · rw [e] at hk; cases hk
  have he := Lib.hid (show (N.rows.eraseIdx k).length = k + (N.rows.length - (k + 1)) by rw [List.length_eraseIdx_of_lt hk]; omega)
  have D := fun (j : Nat) (hj : j = k + 1) (hjn : j ≤ N.rows.length) => delete_dg (i := k) hrow hj hjn hb4 hb5
  generalize hn : N.rows.length = n at *
  have HN := Lib.hid hn
  clear h HB hrow hn
  go_enter Try.func25, Try.ntmps25
  go_wp2_with (first | (go_at_call 32; refine M.mono ?_; rintro e w' ⟨rfl, rfl⟩) | fail)
  refine (D (k + 1) rfl (by omega)).mono ?_
  rintro e w1 ⟨rfl, R1, G1⟩
  have c1 : w1.cell? ⟨g, 65, none⟩ = some (.slice (some ⟨b, 0, none⟩) n cap) := by rw [World.cell?_of_block (G1.block g hgl (by intro e; cases e; exact hb3 rfl))]; exact c
  have f1 : w1.frozen? ⟨g, 65, none⟩ = false := by rw [World.frozen?_of_block (G1.block g hgl (by intro e; cases e; exact hb3 rfl))]; exact fr
  have R2 := Lib.hid R1
  have G2 := Lib.hid G1
  clear R1 G1 c M D
  go_wp2
  go_ret
  exact ⟨rfl, HH.out w1 G2.out (N.rows.eraseIdx k) _ he.out.symm _ cap R2.out (fun a e => .inl ⟨a, e, rfl⟩) (fun d hd => HO.out d (List.mem_of_mem_eraseIdx hd)) (by rw [he.out]; omega)⟩
end Go.Proofs.YtpbeohonohcgdaaR
