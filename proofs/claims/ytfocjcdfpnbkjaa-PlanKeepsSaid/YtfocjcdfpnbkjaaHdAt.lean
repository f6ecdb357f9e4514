/- A hold in memory: its block of 128 cells, its rows, their Deps; process, Low, of, Count, New. -/
import Derived.Test.YtfocjcdfpnbkjaaHdKit
import Derived.Deep.RegionWith
import Derived.BigQuiet
import Derived.StillTailTactics
set_option linter.unusedVariables false
set_option linter.unusedSimpArgs false
namespace Go.Proofs.Ytfocjcdfpnbkjaa
open Go.RowKit Go.Sort

def updF {α : Type} (f : Nat → α) (p : Nat) (x : α) : Nat → α := fun q => if q = p then x else f q
theorem updF_same {α : Type} (f : Nat → α) (p : Nat) (x : α) : updF f p x p = x := if_pos rfl
theorem updF_other {α : Type} (f : Nat → α) (p q : Nat) (x : α) (h : q ≠ p) : updF f p x q = f q := if_neg h
def rowF {α : Type} (v : α → Value) (f : Nat → α) : List Value := (List.range 64).map fun p => v (f p)
theorem rowF_length {α : Type} (v : α → Value) (f : Nat → α) : (rowF v f).length = 64 := by simp [rowF]
theorem rowF_at {α : Type} (v : α → Value) (f : Nat → α) (p : Nat) (hp : p < 64) : (rowF v f)[p]? = some (v (f p)) := by
  unfold rowF; rw [List.getElem?_map, List.getElem?_range hp]; rfl
theorem rowF_set {α : Type} (v : α → Value) (f : Nat → α) (p : Nat) (x : α) (hp : p < 64) : (rowF v f).set p (v x) = rowF v (updF f p x) := by
  apply List.ext_getElem?
  intro i
  rw [List.getElem?_set]
  by_cases hi : i < 64
  · rw [rowF_at _ _ i hi, rowF_at _ _ i hi]
    by_cases e : p = i
    · subst e; rw [if_pos rfl, if_pos (by rw [rowF_length]; exact hp), updF_same]
    · rw [if_neg e, updF_other _ _ _ _ (fun h => e h.symm)]
  · rw [if_neg (by omega), List.getElem?_eq_none (by rw [rowF_length]; omega), List.getElem?_eq_none (by rw [rowF_length]; omega)]
def vU (n : Nat) : Value := .int .u32 (n : Int)
/-- The cells of a hold. -/
def hC (lo : Nat → Nat) (sl : Nat → Sl) : List Value := rowF vU lo ++ rowF Sl.v sl
theorem hC_length (lo : Nat → Nat) (sl : Nat → Sl) : (hC lo sl).length = 128 := by unfold hC; rw [List.length_append, rowF_length, rowF_length]
theorem hC_lo (lo : Nat → Nat) (sl : Nat → Sl) (p : Nat) (hp : p < 64) : (hC lo sl)[p]? = some (.int .u32 (lo p : Int)) := by
  unfold hC; rw [List.getElem?_append_left (by rw [rowF_length]; exact hp), rowF_at _ _ _ hp]; rfl
theorem hC_sl (lo : Nat → Nat) (sl : Nat → Sl) (p : Nat) (hp : p < 64) : (hC lo sl)[64 + p]? = some (sl p).v := by
  unfold hC; rw [List.getElem?_append_right (by rw [rowF_length]; omega), rowF_length, Nat.add_sub_cancel_left, rowF_at _ _ _ hp]
theorem hC_set_lo (lo : Nat → Nat) (sl : Nat → Sl) (p n : Nat) (hp : p < 64) : (hC lo sl).toArray.setIfInBounds p (.int .u32 (n : Int)) = (hC (updF lo p n) sl).toArray := by
  rw [List.setIfInBounds_toArray]; congr 1
  unfold hC
  rw [List.set_append_left _ _ (by rw [rowF_length]; exact hp)]
  congr 1
  exact rowF_set vU lo p n hp
theorem hC_set_sl (lo : Nat → Nat) (sl : Nat → Sl) (p : Nat) (s : Sl) (hp : p < 64) : (hC lo sl).toArray.setIfInBounds (64 + p) s.v = (hC lo (updF sl p s)).toArray := by
  rw [List.setIfInBounds_toArray]; congr 1
  unfold hC
  rw [List.set_append_right _ _ (by rw [rowF_length]; omega), rowF_length, Nat.add_sub_cancel_left, rowF_set _ _ _ _ hp]
theorem hC_one (lo : Nat → Nat) (sl : Nat → Sl) : (hC lo sl).toArray.all (·.oneCell') = true := by
  simp [hC, rowF, vU, Sl.v, Value.oneCell']

/-- A message whose Deps lie in blocks of F. -/
structure DpT (w : World) (F : Nat → Prop) (x : Mg) : Prop where
  deps : DpIn w x
  few : x.dl ≤ 1048576
  typ : ∀ ad, x.a = some ad → F ad.block ∧ ∃ cur, w.heap[ad.block]? = some (.cells cur 30 (0, 0))
theorem DpIn.moved {w w' : World} {x : Mg} (h : DpIn w x) (hb : ∀ ad, x.a = some ad → w'.heap[ad.block]? = w.heap[ad.block]?) : DpIn w' x := by
  refine ⟨h.size, fun h0 => ?_⟩
  obtain ⟨b, o, e, R⟩ := h.src h0
  exact ⟨b, o, e, fun i y hy c v hv => (World.cell?_of_block (a := ⟨b, o + i * 1 + c, none⟩) (by exact hb ⟨b, o, none⟩ e)).trans (R i y hy c v hv)⟩
theorem DpT.kept {w w' : World} {F : Nat → Prop} {x : Mg} (h : DpT w F x) (hb : ∀ ad, x.a = some ad → w'.heap[ad.block]? = w.heap[ad.block]?) : DpT w' F x :=
  ⟨h.deps.moved hb, h.few, fun ad e => ⟨(h.typ ad e).1, by obtain ⟨cur, hc⟩ := (h.typ ad e).2; exact ⟨cur, (hb ad e).trans hc⟩⟩⟩
theorem DpT.lt {w : World} {F : Nat → Prop} {x : Mg} (h : DpT w F x) (ad : Addr) (e : x.a = some ad) : ad.block < w.heap.size := by
  obtain ⟨cur, hc⟩ := (h.typ ad e).2
  exact (Array.getElem?_eq_some_iff.1 hc).1
theorem DpT.below {w w' : World} {F : Nat → Prop} {x : Mg} (h : DpT w F x) (hb : Below w.heap.size w w') : DpT w' F x := h.kept fun ad e => hb.block _ (h.lt ad e)
theorem DpT.more {w : World} {F E : Nat → Prop} {x : Mg} (h : DpT w F x) (hE : ∀ k, k < w.heap.size → F k → E k) : DpT w E x :=
  ⟨h.deps, h.few, fun ad e => ⟨hE _ (h.lt ad e) (h.typ ad e).1, (h.typ ad e).2⟩⟩
/-- Its Deps don't lie in a block of messages. -/
theorem DpT.ne {w : World} {F : Nat → Prop} {x : Mg} (h : DpT w F x) (ad : Addr) (e : x.a = some ad) {b : Nat} {cur : Array Value} (hb : w.heap[b]? = some (.cells cur 47 (0, 0))) : ad.block ≠ b := by
  rintro rfl
  obtain ⟨c, hc⟩ := (h.typ ad e).2
  rw [hc] at hb
  injection hb with hb
  injection hb with _ hb _
  exact absurd hb (by decide)
theorem DpT.ne_hold {w : World} {F : Nat → Prop} {x : Mg} (h : DpT w F x) (ad : Addr) (e : x.a = some ad) {b : Nat} {cur : Array Value} (hb : w.heap[b]? = some (.cells cur 186 (0, 0))) : ad.block ≠ b := by
  rintro rfl
  obtain ⟨c, hc⟩ := (h.typ ad e).2
  rw [hc] at hb
  injection hb with hb
  injection hb with _ hb _
  exact absurd hb (by decide)

/-- A hold: its block g; how many were dropped; its rows; all in blocks of F. -/
structure HAt (w : World) (F : Nat → Prop) (g N : Nat) (lo : Nat → Nat) (sl : Nat → Sl) (X : Nat → List Mg) : Prop where
  own : Own w g 186 (hC lo sl).toArray
  fg : F g
  lim : ∀ k, F k → k < w.heap.size
  slot : ∀ p, p < 64 → SlotAt w (sl p) (X p)
  inF : ∀ p, p < 64 → ∀ x, (sl p).a = some x → F x.block
  apart : ∀ p q, p < 64 → q < 64 → p ≠ q → ∀ x y, (sl p).a = some x → (sl q).a = some y → x.block ≠ y.block
  deps : ∀ p, p < 64 → ∀ x ∈ X p, DpT w F x
  bnd : ∀ p, p < 64 → lo p + (X p).length ≤ N
section
variable {w : World} {F : Nat → Prop} {g N : Nat} {lo : Nat → Nat} {sl : Nat → Sl} {X : Nat → List Mg}
theorem HAt.lt (h : HAt w F g N lo sl X) : g < w.heap.size := h.own.lt
theorem HAt.kept {w' : World} (h : HAt w F g N lo sl X) (hs : w.heap.size ≤ w'.heap.size) (hb : ∀ k, F k → w'.heap[k]? = w.heap[k]?) : HAt w' F g N lo sl X :=
  ⟨(hb g h.fg).trans h.own, h.fg, fun k hk => Nat.lt_of_lt_of_le (h.lim k hk) hs, fun p hp => (h.slot p hp).kept fun x hx => hb _ (h.inF p hp x hx), h.inF, h.apart,
    fun p hp x hx => (h.deps p hp x hx).kept fun ad e => hb _ ((h.deps p hp x hx).typ ad e).1, h.bnd⟩
theorem HAt.below {w' : World} (h : HAt w F g N lo sl X) (hb : Below w.heap.size w w') : HAt w' F g N lo sl X := h.kept hb.size fun k hk => hb.block k (h.lim k hk)
theorem HAt.chg {w' : World} {D : Nat → Prop} (h : HAt w F g N lo sl X) (hb : Chg D w w') (hD : ∀ k, F k → ¬ D k) : HAt w' F g N lo sl X := h.kept hb.size fun k hk => hb.block k (h.lim k hk) (hD k hk)
theorem HAt.cl (h : HAt w F g N lo sl X) (p : Nat) (hp : p < 64) : w.cell? ⟨g, p, none⟩ = some (.int .u32 (lo p : Int)) := h.own.at_ p _ (by rw [List.getElem?_toArray]; exact hC_lo _ _ _ hp)
theorem HAt.cs (h : HAt w F g N lo sl X) (p : Nat) (hp : p < 64) : w.cell? ⟨g, 64 + p, none⟩ = some (.slice (sl p).a (sl p).n (sl p).c) := h.own.at_ (64 + p) _ (by rw [List.getElem?_toArray]; exact hC_sl _ _ _ hp)
theorem HAt.free (h : HAt w F g N lo sl X) (j : Nat) : w.frozen? ⟨g, j, none⟩ = false := h.own.free j
theorem HAt.rangeS (h : HAt w F g N lo sl X) : w.rangeAt g 64 (rowF Sl.v sl) := fun j v hv => by
  refine h.own.at_ (64 + j) _ ?_
  rw [List.getElem?_toArray]; unfold hC
  rw [List.getElem?_append_right (by rw [rowF_length]; omega), rowF_length, Nat.add_sub_cancel_left]
  exact hv
theorem HAt.rangeL (h : HAt w F g N lo sl X) : w.rangeAt g 0 (rowF vU lo) := fun j v hv => by
  have hj : j < 64 := by have := (List.getElem?_eq_some_iff.1 hv).1; rwa [rowF_length] at this
  rw [Nat.zero_add]
  refine h.own.at_ j _ ?_
  rw [List.getElem?_toArray]; unfold hC
  rw [List.getElem?_append_left (by rw [rowF_length]; exact hj)]
  exact hv
theorem HAt.len (h : HAt w F g N lo sl X) (p : Nat) (hp : p < 64) : (X p).length = (sl p).n := (h.slot p hp).len
end

/-- Of a process; z of what is none. -/
def onP {α : Type} (z : α) (f : Nat → α) (p : Int) : α := if 0 ≤ p ∧ p < 64 then f p.toNat else z
theorem onP_yes {α : Type} (z : α) (f : Nat → α) (k : Nat) (hk : k < 64) : onP z f (k : Int) = f k := by
  unfold onP; rw [if_pos (by omega), Int.toNat_natCast]
theorem onP_no {α : Type} (z : α) (f : Nat → α) (p : Int) (hp : ¬ (0 ≤ p ∧ p < 64)) : onP z f p = z := if_neg hp
theorem proc_cases (p : Int) : (∃ k : Nat, p = (k : Int) ∧ k < 64) ∨ ¬ (0 ≤ p ∧ p < 64) := by
  by_cases h : 0 ≤ p ∧ p < 64
  · obtain ⟨k, rfl⟩ := Int.eq_ofNat_of_zero_le h.1
    exact .inl ⟨k, rfl, by omega⟩
  · exact .inr h
set_option maxHeartbeats 1000000 in
theorem hproc_yes (k : Nat) (hk : k < 64) (w : World) : Calls Try.prog 119 #[.int .i64 (k : Int)] w fun e w' => e = .returned (.bool true) ∧ w = w' := by
  have d1 : decide ((k : Int) < 64) = true := by simp; omega
  go_enter Try.func119, Try.ntmps119
  go_wp2
  go_ret
  exact ⟨rfl, rfl⟩
set_option maxHeartbeats 1000000 in
theorem hproc_no (p : Int) (hp : ¬ (0 ≤ p ∧ p < 64)) (w : World) : Calls Try.prog 119 #[.int .i64 p] w fun e w' => e = .returned (.bool false) ∧ w = w' := by
  by_cases h0 : p < 0
  · have d0 : decide (0 ≤ p) = false := by simp; omega
    clear hp
    go_enter Try.func119, Try.ntmps119
    go_wp2
    go_ret
    exact ⟨rfl, rfl⟩
  · have h1 : 64 ≤ p := by omega
    have d1 : decide (p < 64) = false := by simp; omega
    clear hp
    go_enter Try.func119, Try.ntmps119
    go_wp2
    go_ret
    exact ⟨rfl, rfl⟩
section
variable {w : World} {F : Nat → Prop} {g N : Nat} {lo : Nat → Nat} {sl : Nat → Sl} {X : Nat → List Mg}
set_option maxHeartbeats 1000000 in
theorem hlow_yes (h : HAt w F g N lo sl X) (k : Nat) (hk : k < 64) : Calls Try.prog 140 #[.pointer (some ⟨g, 0, none⟩), .int .i64 (k : Int)] w fun e w' => e = .returned (.int .u32 (lo k : Int)) ∧ w = w' := by
  have c := h.cl k hk
  have P := hproc_yes k hk w
  clear h
  go_enter Try.func140, Try.ntmps140
  go_wp2_with (go_at_call 119; refine P.mono ?_; rintro e w' ⟨rfl, rfl⟩)
  go_ret
  exact ⟨rfl, rfl⟩
set_option maxHeartbeats 1000000 in
theorem hlow_no (g : Nat) (p : Int) (hp : ¬ (0 ≤ p ∧ p < 64)) (w : World) : Calls Try.prog 140 #[.pointer (some ⟨g, 0, none⟩), .int .i64 p] w fun e w' => e = .returned (.int .u32 0) ∧ w = w' := by
  have P := hproc_no p hp w
  clear hp
  go_enter Try.func140, Try.ntmps140
  go_wp2_with (go_at_call 119; refine P.mono ?_; rintro e w' ⟨rfl, rfl⟩)
  go_ret
  exact ⟨rfl, rfl⟩
theorem hlow (h : HAt w F g N lo sl X) (p : Int) : Calls Try.prog 140 #[.pointer (some ⟨g, 0, none⟩), .int .i64 p] w fun e w' => e = .returned (.int .u32 (onP 0 lo p : Nat)) ∧ w = w' := by
  rcases proc_cases p with ⟨k, rfl, hk⟩ | hp
  · rw [onP_yes _ _ _ hk]; exact hlow_yes h k hk
  · rw [onP_no _ _ _ hp]; exact hlow_no g p hp w
set_option maxHeartbeats 1000000 in
theorem hof_yes (h : HAt w F g N lo sl X) (k : Nat) (hk : k < 64) : Calls Try.prog 141 #[.pointer (some ⟨g, 0, none⟩), .int .i64 (k : Int)] w fun e w' => e = .returned (.slice (sl k).a (sl k).n (sl k).c) ∧ w = w' := by
  have c := h.cs k hk
  have P := hproc_yes k hk w
  clear h
  go_enter Try.func141, Try.ntmps141
  go_wp2_with (go_at_call 119; refine P.mono ?_; rintro e w' ⟨rfl, rfl⟩)
  go_ret
  exact ⟨rfl, rfl⟩
set_option maxHeartbeats 1000000 in
theorem hof_no (g : Nat) (p : Int) (hp : ¬ (0 ≤ p ∧ p < 64)) (w : World) : Calls Try.prog 141 #[.pointer (some ⟨g, 0, none⟩), .int .i64 p] w fun e w' => e = .returned (.slice none 0 0) ∧ w = w' := by
  have P := hproc_no p hp w
  clear hp
  go_enter Try.func141, Try.ntmps141
  go_wp2_with (go_at_call 119; refine P.mono ?_; rintro e w' ⟨rfl, rfl⟩)
  go_ret
  exact ⟨rfl, rfl⟩
/-- The count. -/
def cntF (lo : Nat → Nat) (X : Nat → List Mg) : Nat → Nat := fun p => lo p + (X p).length
set_option maxHeartbeats 1000000 in
theorem hcount_yes (h : HAt w F g N lo sl X) (hN : N ≤ 1000) (k : Nat) (hk : k < 64) : Calls Try.prog 120 #[.pointer (some ⟨g, 0, none⟩), .int .i64 (k : Int)] w fun e w' => e = .returned (.int .u32 (cntF lo X k : Nat)) ∧ w = w' := by
  have P1 := hlow_yes h k hk
  have P2 := hof_yes h k hk
  have hb := h.bnd k hk
  have hl := h.len k hk
  unfold cntF
  rw [hl] at hb ⊢
  clear h hl
  generalize sl k = s at *
  obtain ⟨sa, sn, sc⟩ := s
  simp only at P2 hb ⊢
  generalize lo k = l at *
  obtain ⟨c, hc⟩ : ∃ c, c = l + sn := ⟨_, rfl⟩
  have hl0 : l ≤ 1000 := by omega
  have hs0 : sn ≤ 1000 := by omega
  have hc0 : (c : Int) = (l : Int) + (sn : Int) := by omega
  rw [← hc]
  have HC := Lib.hid hc0
  clear hb hc hc0
  go_enter Try.func120, Try.ntmps120
  go_wp2_with (first | (go_at_call 140; refine P1.mono ?_; rintro e w' ⟨rfl, rfl⟩) | (go_at_call 141; refine P2.mono ?_; rintro e w' ⟨rfl, rfl⟩))
  go_ret
  exact ⟨by rw [HC.out]; rfl, rfl⟩
set_option maxHeartbeats 1000000 in
theorem hcount_no (g : Nat) (p : Int) (hp : ¬ (0 ≤ p ∧ p < 64)) (w : World) : Calls Try.prog 120 #[.pointer (some ⟨g, 0, none⟩), .int .i64 p] w fun e w' => e = .returned (.int .u32 0) ∧ w = w' := by
  have P1 := hlow_no g p hp w
  have P2 := hof_no g p hp w
  clear hp
  go_enter Try.func120, Try.ntmps120
  go_wp2_with (first | (go_at_call 140; refine P1.mono ?_; rintro e w' ⟨rfl, rfl⟩) | (go_at_call 141; refine P2.mono ?_; rintro e w' ⟨rfl, rfl⟩))
  go_ret
  exact ⟨rfl, rfl⟩
theorem hcount (h : HAt w F g N lo sl X) (hN : N ≤ 1000) (p : Int) : Calls Try.prog 120 #[.pointer (some ⟨g, 0, none⟩), .int .i64 p] w fun e w' => e = .returned (.int .u32 (onP 0 (cntF lo X) p : Nat)) ∧ w = w' := by
  rcases proc_cases p with ⟨k, rfl, hk⟩ | hp
  · rw [onP_yes _ _ _ hk]; exact hcount_yes h hN k hk
  · rw [onP_no _ _ _ hp]; exact hcount_no g p hp w
end
theorem hold_zero (w : World) : (zeroValue 186).run Try.prog w = .ok (.agg (hC (fun _ => 0) (fun _ => slNil)).toArray) w := by kernel_rfl
set_option maxHeartbeats 1000000 in
theorem hnew (w : World) : Calls Try.prog 63 #[] w fun e w' => e = .returned (.pointer (some ⟨w.heap.size, 0, none⟩)) ∧ HAt w' (fun k => k = w.heap.size) w.heap.size 0 (fun _ => 0) (fun _ => slNil) (fun _ => []) ∧ Below w.heap.size w w' := by
  have hb := hold_zero
  have fin : HAt (w.alloc (.cells (hC (fun _ => 0) (fun _ => slNil)).toArray 186)) (fun k => k = w.heap.size) w.heap.size 0 (fun _ => 0) (fun _ => slNil) (fun _ => []) :=
    ⟨Own.new w _ _, rfl, fun k hk => by subst hk; simp, fun _ _ => SlotAt.nil _, fun _ _ x hx => by simp [slNil] at hx, fun _ _ _ _ _ x y hx => by simp [slNil] at hx, fun _ _ x hx => by simp at hx, fun _ _ => Nat.le_refl _⟩
  have FIN := Lib.hid fin
  have FB := Lib.hid (((Grw.refl w).alloc (.cells (hC (fun _ => 0) (fun _ => slNil)).toArray 186)).below)
  clear fin
  generalize (hC (fun _ => 0) (fun _ => slNil)).toArray = C at *
  go_enter Try.func63, Try.ntmps63
  go_wp2
  go_ret
  exact ⟨rfl, FIN.out, FB.out⟩
end Go.Proofs.Ytfocjcdfpnbkjaa
