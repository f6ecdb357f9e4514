/- The law's 'spoil': it writes over what messages hold. -/
import Derived.Test.YtafenlacacghoaaHdStep
set_option linter.unusedVariables false
set_option linter.unusedSimpArgs false
namespace Go.Proofs.Ytafenlacacghoaa
open Go.RowKit Go.Sort

/-- Amid 'spoil'. -/
structure Spl (D : Nat → Prop) (w wr : World) (b off : Nat) (X : List Mg) : Prop where
  chg : Chg D w wr
  row : ∃ cur, wr.heap[b]? = some (.cells cur 37 (0, 0)) ∧ ∀ i x, X[i]? = some x → cur[off + i * 6 + 4]? = some (.slice x.a x.dl x.dc) ∧ off + i * 6 + 5 < cur.size
  dep : ∀ x ∈ X, 0 < x.dl → ∃ e o cur, x.a = some ⟨e, o, none⟩ ∧ D e ∧ wr.heap[e]? = some (.cells cur 23 (0, 0)) ∧ ∀ j, j < x.dl → ∃ v : Int, cur[o + j]? = some (.int .u32 v)
  db : D b
theorem Spl.start {D : Nat → Prop} {w : World} {b off n c : Nat} {X : List Mg} (h : MRow w b off n c X) (hb : D b) (hd : ∀ x ∈ X, DpT w D x) : Spl D w w b off X := by
  obtain ⟨cur, h1, h2, h3⟩ := h.ex
  refine ⟨Chg.refl _ _, ⟨cur, h1, fun i x hx => ⟨?_, ?_⟩⟩, fun x hx h0 => ?_, hb⟩
  · rw [Nat.add_assoc]
    exact h3 _ _ (by rw [flat_at encG 6 encG_length X i x hx 4 (by decide)]; rfl)
  · have hi := (List.getElem?_eq_some_iff.1 hx).1
    have := h.len
    have := h.le
    have h4 : (i + 1) * 6 ≤ c * 6 := Nat.mul_le_mul_right _ (by omega)
    omega
  · obtain ⟨e, o, ea, R⟩ := (hd x hx).deps.src h0
    obtain ⟨h5, cur2, h6⟩ := (hd x hx).typ _ ea
    refine ⟨e, o, cur2, ea, h5, h6, fun j hj => ?_⟩
    have hjl : j < x.deps.length := by rw [(hd x hx).deps.size]; exact hj
    have := R j _ (List.getElem?_eq_getElem hjl) 0 _ rfl
    rw [cell_of_row _ _ _ _ _ _ h6] at this
    exact ⟨_, by simpa using this⟩
theorem Spl.drew {D : Nat → Prop} {w wr : World} {b off : Nat} {X : List Mg} (h : Spl D w wr b off X) : Spl D w wr.drew b off X :=
  ⟨⟨h.chg.os, h.chg.tape, h.chg.output, h.chg.size, h.chg.block⟩, h.row, h.dep, h.db⟩
theorem Spl.set {D : Nat → Prop} {w wr : World} {b off e o : Nat} {X : List Mg} (h : Spl D w wr b off X) (he : D e) {cur : Array Value} (hc : wr.heap[e]? = some (.cells cur 23 (0, 0))) (y : Int) : Spl D w (wr.setCell ⟨e, o, none⟩ (.int .u32 y)) b off X := by
  have hset : ∀ j, j ≠ e → (wr.setCell ⟨e, o, none⟩ (.int .u32 y)).heap[j]? = wr.heap[j]? := fun j hj => heap_setCell_other wr _ j _ hj
  have hs := heap_setCell_same wr e o cur _ (.int .u32 y) hc
  refine ⟨⟨h.chg.os, h.chg.tape, h.chg.output, by have := h.chg.size; simpa [World.setCell] using this, fun k hk hn => (hset k (fun e2 => hn (e2 ▸ he))).trans (h.chg.block k hk hn)⟩, ?_, fun x hx h0 => ?_, h.db⟩
  · obtain ⟨cb, h1, h2⟩ := h.row
    exact ⟨cb, (hset b (typ_ne h1 hc (by decide))).trans h1, h2⟩
  · obtain ⟨e', o', c', h1, h2, h3, h4⟩ := h.dep x hx h0
    by_cases e2 : e' = e
    · subst e2
      rw [hc] at h3
      injection h3 with h3
      injection h3 with h3 _ _
      subst h3
      refine ⟨e', o', _, h1, h2, hs, fun j hj => ?_⟩
      obtain ⟨v, hv⟩ := h4 j hj
      rw [Array.getElem?_setIfInBounds]
      split
      · split
        · exact ⟨y, rfl⟩
        · have := (Array.getElem?_eq_some_iff.1 hv).1; omega
      · exact ⟨v, hv⟩
    · exact ⟨e', o', c', h1, h2, (hset e' e2).trans h3, h4⟩
theorem Spl.text {D : Nat → Prop} {w wr : World} {b off : Nat} {X : List Mg} (h : Spl D w wr b off X) (i : Nat) (t : ByteArray) : Spl D w (wr.setCell ⟨b, off + i * 6 + 5, none⟩ (.string t)) b off X := by
  have hset : ∀ j, j ≠ b → (wr.setCell ⟨b, off + i * 6 + 5, none⟩ (.string t)).heap[j]? = wr.heap[j]? := fun j hj => heap_setCell_other wr _ j _ hj
  obtain ⟨cb, h1, h2⟩ := h.row
  have hs := heap_setCell_same wr b (off + i * 6 + 5) cb _ (.string t) h1
  refine ⟨⟨h.chg.os, h.chg.tape, h.chg.output, by have := h.chg.size; simpa [World.setCell] using this, fun k hk hn => (hset k (fun e2 => hn (e2 ▸ h.db))).trans (h.chg.block k hk hn)⟩, ⟨_, hs, fun i' x hx => ⟨?_, by simpa using (h2 i' x hx).2⟩⟩, fun x hx h0 => ?_, h.db⟩
  · rw [Array.getElem?_setIfInBounds, if_neg (by omega)]
    exact (h2 i' x hx).1
  · obtain ⟨e', o', c', k1, k2, k3, k4⟩ := h.dep x hx h0
    exact ⟨e', o', c', k1, k2, (hset e' (typ_ne k3 h1 (by decide))).trans k3, k4⟩
/-- What 'spoil' leaves. -/
def SplSaid (D : Nat → Prop) (w : World) (e : Ending) (w' : World) : Prop := e = .returned (.tuple #[]) ∧ Chg D w w'
set_option maxHeartbeats 8000000 in
set_option maxRecDepth 100000 in
theorem spoil_some {D : Nat → Prop} {w : World} (b off n c : Nat) (X : List Mg) (h : MRow w b off n c X) (hb : D b) (hd : ∀ x ∈ X, DpT w D x) (hn : n ≤ 100000) :
    Calls Try.prog 14 #[.slice (some ⟨b, off, none⟩) n c] w (SplSaid D w) := by
  have mixed : Try.prog.follows .mixedOrders = true := by kernel_rfl
  have S0 := Lib.hid (Spl.start h hb hd)
  have HLEN := Lib.hid h.len
  have HFEW := Lib.hid (fun x hx => (hd x hx).few)
  clear h hb hd
  go_enter Try.func14, Try.ntmps14
  go_wp2
  go_loopw [2] (fun si wr => ∃ i : Nat, i ≤ n ∧ si = .int .i64 i ∧ Hid (Spl D w wr b off X)) (fun si _ => n - (intOf si).toNat)
  case atStart => exact ⟨0, Nat.zero_le _, rfl, S0⟩
  case round =>
    obtain ⟨i, hi, rfl, HS⟩ := hrel
    by_cases hlt : i < n
    · obtain ⟨x, hx⟩ : ∃ x, X[i]? = some x := ⟨_, List.getElem?_eq_getElem (by rw [HLEN.out]; exact hlt)⟩
      have HX := Lib.hid hx
      have hdl := HFEW.out x (List.mem_of_getElem? hx)
      obtain ⟨f, q, sx, v, a, dl, dc, deps, text⟩ := x
      simp only at hdl
      clear hx
      go_wp2
      obtain ⟨w5, hw5⟩ : ∃ w5, w5 = wr := ⟨_, rfl⟩
      rw [← hw5] at HS
      try rw [← hw5]
      clear hw5
      go_loopw [3] (fun sj wr => ∃ j : Nat, j ≤ dl ∧ sj = .int .i64 j ∧ Hid (Spl D w wr b off X)) (fun sj _ => dl - (intOf sj).toNat)
      case atStart => exact ⟨0, Nat.zero_le _, rfl, HS⟩
      case round =>
        clear HS
        obtain ⟨j, hj, rfl, HS⟩ := hrel
        obtain ⟨cb, h1, h2⟩ := HS.out.row
        have c4 : wr.cell? ⟨b, off + i * 6 + 4, none⟩ = some (.slice a dl dc) := by rw [cell_of_row _ _ _ _ _ _ h1]; exact (h2 i _ HX.out).1
        obtain ⟨c5v, c5⟩ : ∃ c5v, wr.cell? ⟨b, off + i * 6 + 5, none⟩ = some c5v := ⟨_, by
          rw [cell_of_row _ _ _ _ _ _ h1, Array.getElem?_eq_getElem (h2 i _ HX.out).2]⟩
        have f5 := frozen_of_row wr b (off + i * 6 + 5) cb _ h1
        clear h1 h2
        by_cases hlt2 : j < dl
        · obtain ⟨e, o, ce, ea, hDe, hce, hv⟩ := HS.out.dep _ (List.mem_of_getElem? HX.out) (by show 0 < dl; omega)
          simp only at ea
          subst ea
          obtain ⟨z, hz⟩ := hv j hlt2
          have d0 : wr.cell? ⟨e, o + j, none⟩ = some (.int .u32 z) := by rw [cell_of_row _ _ _ _ _ _ hce]; exact hz
          have g0 := frozen_of_row wr e (o + j) ce _ hce
          have HST : Hid (∀ y, Spl D w (wr.drew.setCell ⟨e, o + j, none⟩ (.int .u32 y)) b off X) := Lib.hid fun y => HS.out.drew.set hDe (by exact hce) y
          clear hv hz hce c5 f5 HS
          go_upto_region 6 with fail
          have D4 : wr.drew.cell? ⟨b, off + i * 6 + 4, none⟩ = _ := c4
          have D0 : wr.drew.cell? ⟨e, o + j, none⟩ = _ := d0
          have G0 : wr.drew.frozen? ⟨e, o + j, none⟩ = _ := g0
          go_still_tail 16, (by kernel_rfl)
          change wpList _ _ _ _ _ wr.drew
          generalize wr.drew = w6 at *
          clear c4 d0 g0
          go_wp2
          go_roundw
          case rel => exact ⟨j + 1, by omega, by go_num, Lib.hid (HST.out _)⟩
          case measure => simp [intOf]; omega
        · have HT : Hid (∀ t, Spl D w (wr.setCell ⟨b, off + i * 6 + 5, none⟩ (.string t)) b off X) := Lib.hid fun t => HS.out.text i t
          clear HS
          go_wp2
          go_roundw
          case rel => exact ⟨i + 1, by omega, by go_num, Lib.hid (HT.out _)⟩
          case measure => simp [intOf]; omega
    · have h1 := HS.out.chg
      go_wp2
      go_end0
      exact ⟨rfl, h1⟩
set_option maxHeartbeats 1000000 in
theorem spoil_nil (w : World) (a : Option Addr) (c : Nat) : Calls Try.prog 14 #[.slice a 0 c] w fun e w' => e = .returned (.tuple #[]) ∧ w = w' := by
  go_enter Try.func14, Try.ntmps14
  go_wp2
  go_loopw [2] (fun si wr => si = .int .i64 0 ∧ wr = w) (fun si _ => 0)
  case atStart => exact ⟨rfl, rfl⟩
  case round =>
    obtain ⟨rfl, rfl⟩ := hrel
    go_wp2
    go_end0
    exact ⟨rfl, rfl⟩
theorem spoil_any {D : Nat → Prop} {w : World} (s : Sl) (X : List Mg) (h : SlotAt w s X) (hb : ∀ x, s.a = some x → D x.block) (hd : ∀ x ∈ X, DpT w D x) (hn : s.n ≤ 100000) :
    Calls Try.prog 14 #[.slice s.a s.n s.c] w (SplSaid D w) := by
  rcases h with ⟨rfl, rfl⟩ | ⟨b, off, e, h⟩
  · refine (spoil_nil w none 0).mono fun e w' hs => ?_
    obtain ⟨k1, rfl⟩ := hs
    exact ⟨k1, Chg.refl _ _⟩
  · have := hb _ e
    rw [e]
    exact spoil_some b off s.n s.c X h this hd hn
end Go.Proofs.Ytafenlacacghoaa
