/- Copy. (Written by wip/gen_hdcopy.py.) -/
import Derived.Test.YtfocjcdfpnbkjaaZStables
import Derived.Test.YtfocjcdfpnbkjaaZHdPut
set_option linter.unusedVariables false
set_option linter.unusedSimpArgs false
namespace Go.Proofs.Ytfocjcdfpnbkjaa
open Go.RowKit Go.Sort

/-- All blocks from B on. -/
def newB (B : Nat) (w : World) : Nat → Prop := fun j => B ≤ j ∧ j < w.heap.size
theorem HAt.fill {wr W : World} {B gc N : Nat} {lo : Nat → Nat} {sl : Nat → Sl} {X : Nat → List Mg} {k : Nat} {s' : Sl} {Y : List Mg} (h : HAt wr (newB B wr) gc N lo sl X) (hB : B ≤ wr.heap.size) (hk : k < 64) (HB : Below wr.heap.size wr W) (hO : OutR W wr.heap.size s' Y) (hb : lo k + Y.length ≤ N) :
    HAt (W.setCell ⟨gc, 64 + k, none⟩ s'.v) (newB B (W.setCell ⟨gc, 64 + k, none⟩ s'.v)) gc N lo (updF sl k s') (updF X k Y) := by
  have hsz : (W.setCell ⟨gc, 64 + k, none⟩ s'.v).heap.size = W.heap.size := by simp [World.setCell]
  have s1 := HB.size
  have h1 := h.below HB
  have o3 := h1.own.set (64 + k) s'.v
  rw [hC_set_sl _ _ _ _ hk] at o3
  have hset : ∀ j, j ≠ gc → (W.setCell ⟨gc, 64 + k, none⟩ s'.v).heap[j]? = W.heap[j]? := fun j hj => heap_setCell_other W _ j _ hj
  have hgl := h.lt
  have keepD : ∀ (E : Nat → Prop) (z : Mg), DpT W E z → DpT (W.setCell ⟨gc, 64 + k, none⟩ s'.v) E z := fun E z hz => hz.kept fun ad e => hset _ (hz.ne_hold ad e h1.own)
  have up : ∀ j, newB B wr j → newB B (W.setCell ⟨gc, 64 + k, none⟩ s'.v) j := fun j hj => ⟨hj.1, by have := hj.2; omega⟩
  refine ⟨o3, up _ h.fg, fun j hj => hj.2, fun p hp => ?_, fun p hp z hz => ?_, fun p q hp hq hpq z u hz hu => ?_, fun p hp z hz => ?_, fun p hp => ?_⟩
  · by_cases e : p = k
    · subst e
      rw [updF_same, updF_same]
      exact hO.slot.kept fun z hz => hset _ (by have := hO.new z hz; omega)
    · rw [updF_other _ _ _ _ e, updF_other _ _ _ _ e]
      exact (h1.slot p hp).kept fun z hz => hset _ (h1.slot_ne p hp z hz)
  · by_cases e : p = k
    · subst e
      rw [updF_same] at hz
      have := hO.new z hz
      have := hO.slot.lt z hz
      exact ⟨by omega, by omega⟩
    · rw [updF_other _ _ _ _ e] at hz
      exact up _ (h.inF p hp z hz)
  · by_cases e : p = k
    · subst e
      rw [updF_same] at hz
      rw [updF_other _ _ _ _ (fun e => hpq e.symm)] at hu
      have := hO.new z hz
      have := (h.slot q hq).lt u hu
      omega
    · rw [updF_other _ _ _ _ e] at hz
      by_cases e2 : q = k
      · subst e2
        rw [updF_same] at hu
        have := hO.new u hu
        have := (h.slot p hp).lt z hz
        omega
      · rw [updF_other _ _ _ _ e2] at hu
        exact h.apart p q hp hq hpq z u hz hu
  · by_cases e : p = k
    · subst e
      rw [updF_same] at hz
      exact (keepD _ _ (hO.deps z hz)).more fun j hj h2 => ⟨by omega, by omega⟩
    · rw [updF_other _ _ _ _ e] at hz
      exact (keepD _ _ (h1.deps p hp z hz)).more fun j _ hj => up j hj
  · by_cases e : p = k
    · subst e; rw [updF_same]; exact hb
    · rw [updF_other _ _ _ _ e]; exact h.bnd p hp
theorem lows_size : (Try.prog.info? 31).map (·.size) = some 64 := by kernel_rfl
theorem build_hold12 (lo : Nat → Nat) (w : World) : (Instr.build 186 #[(0, .agg (rowF vU lo).toArray)]).run Try.prog w = .ok (.agg (hC lo (fun _ => slNil)).toArray) w := by kernel_rfl
theorem step_build12 {ops : Array Oper} {rest : List Oper} {o : Oper} {a : Act} {w : World} {Q : Exit → Act → World → Prop} (hgd : o.guard = none) (ty : TypeId) (x : Operand) (ho : o.op = .build ty #[(0, x)])
    (vx v : Value) (hx : a.eval x = vx) (hb : (Instr.build ty #[(0, vx)]).run Try.prog w = .ok v w)
    (h : wpList Try.prog ops Q rest (a.put o.dst v) w) : wpList Try.prog ops Q (o :: rest) a w :=
  wpList_plain hgd fun _ hK => by
    unfold Oper.wp execOp
    simp only [ho, List.map_toArray, List.map_cons, List.map_nil, hx, Sem.run_bind, Sem.run_pure, Result.andThen_ok, hb]
    exact hK _ _ h
/-- Amid the copying. -/
structure CpSt (w wr : World) (gc N : Nat) (lo : Nat → Nat) (X : Nat → List Mg) (k : Nat) (sl2 : Nat → Sl) (X2 : Nat → List Mg) : Prop where
  at_ : HAt wr (newB w.heap.size wr) gc N lo sl2 X2
  bel : Below w.heap.size w wr
  done : ∀ p, p < k → (X2 p).map strip = (X p).map strip
/-- What Copy answers. -/
def CopySaid (w : World) (N : Nat) (lo : Nat → Nat) (X : Nat → List Mg) (e : Ending) (w' : World) : Prop :=
  ∃ gc sl2 X2, e = .returned (.pointer (some ⟨gc, 0, none⟩)) ∧ HAt w' (newB w.heap.size w') gc N lo sl2 X2 ∧ Below w.heap.size w w' ∧ ∀ p, p < 64 → (X2 p).map strip = (X p).map strip
section
variable {w : World} {F : Nat → Prop} {g N : Nat} {lo : Nat → Nat} {sl : Nat → Sl} {X : Nat → List Mg}
set_option maxHeartbeats 8000000 in
set_option maxRecDepth 100000 in
theorem hcopy (h : HAt w F g N lo sl X) (hN : N ≤ 1000) : Calls Try.prog 88 #[.pointer (some ⟨g, 0, none⟩)] w (CopySaid w N lo X) := by
  have HRS := Lib.hid h.rangeS
  have HRLO := Lib.hid h.rangeL
  have HL1 := Lib.hid (rowF_length Sl.v sl)
  have HL2 := Lib.hid (rowF_length vU lo)
  have HIX : Hid (∀ k : Nat, k < 64 → ∀ W, (Instr.index 184 (.agg (rowF Sl.v sl).toArray) (.int .i64 (k : Int))).run Try.prog W = .ok (.slice (sl k).a (sl k).n (sl k).c) W) := Lib.hid fun k hk W => index_slots sl k hk W
  have HBD := Lib.hid (build_hold12 lo)
  have hb : ∀ p, p < 64 → lo p ≤ N := fun p hp => by have := h.bnd p hp; omega
  have LB := ((Grw.refl w).alloc (.cells (hC lo (fun _ => slNil)).toArray 186)).below
  have C0 : HAt (w.alloc (.cells (hC lo (fun _ => slNil)).toArray 186)) (newB w.heap.size (w.alloc (.cells (hC lo (fun _ => slNil)).toArray 186))) w.heap.size N lo (fun _ => slNil) (fun _ => []) :=
    ⟨Own.new w _ _, ⟨Nat.le_refl _, by simp⟩, fun j hj => hj.2, fun _ _ => SlotAt.nil _, fun _ _ x hx => by simp [slNil] at hx, fun _ _ _ _ _ x y hx => by simp [slNil] at hx, fun _ _ x hx => by simp at hx, fun p hp => by simpa using hb p hp⟩
  have S0 := Lib.hid (CpSt.mk (X := X) (k := 0) C0 LB (fun p hp => by omega))
  have HH := Lib.hid h
  have HRS2 := Lib.hid (h.below LB).rangeS
  have hgs : w.heap.size < (w.alloc (.cells (hC lo (fun _ => slNil)).toArray 186)).heap.size := by simp
  clear h C0 LB hb
  generalize rowF Sl.v sl = C at *
  generalize rowF vU lo = D at *
  generalize (hC lo (fun _ => slNil)).toArray = E at *
  go_enter Try.func88, Try.ntmps88
  go_upto_region 2 with (first | (with_reducible refine wpList_load_mid rfl 31 (.tmp 8) rfl g 0 rfl D _ HRLO.out Try.underlying31 rfl (by rw [HL2.out]; exact lows_size) ?_) | (refine step_build12 rfl 186 (.tmp 9) rfl (.agg D.toArray) (.agg E) rfl (HBD.out _) ?_))
  generalize hgc : w.heap.size = gc at *
  have HGC := Lib.hid hgc
  clear hgc
  generalize w.alloc (.cells E 186) = W at *
  go_wp2_with (with_reducible refine wpList_load_mid rfl 184 (.tmp 14) rfl g 64 rfl C _ HRS2.out Try.underlying184 rfl (by rw [HL1.out]; exact slots_size) ?_)
  clear HRS HRS2 HRLO HL1 HL2 HBD
  go_loopw [16] (fun si wr => ∃ (k : Nat) (sl2 : Nat → Sl) (X2 : Nat → List Mg), k ≤ 64 ∧ si = .int .i64 k ∧ Hid (CpSt w wr gc N lo X k sl2 X2)) (fun si _ => 64 - (intOf si).toNat)
  case atStart => exact ⟨0, _, _, Nat.zero_le _, rfl, S0⟩
  case round =>
    obtain ⟨k, sl2, X2, hk, rfl, HS⟩ := hrel
    by_cases hlt : k < 64
    · have hix := HIX.out k hlt
      obtain ⟨sa, sn, sc, hsl⟩ : ∃ sa sn sc, sl k = ⟨sa, sn, sc⟩ := ⟨_, _, _, rfl⟩
      rw [hsl] at hix
      simp only at hix
      have HX := Lib.hid hix
      have HSL := Lib.hid hsl
      have hkz : (k : Int) < 64 := by omega
      clear hix hsl
      go_upto_region 5 with (refine step_index12 rfl 184 _ _ rfl (.agg C.toArray) (.int .i64 (k : Int)) (.slice sa sn sc) rfl rfl (HX.out _) ?_)
      clear HX
      refine wp_region_held_drew (S := fun _ => True) (by kernel_rfl) trivial (fun hHeld => ?_)
      have HS1 : Hid (CpSt w wr.drew gc N lo X k sl2 X2) := Lib.hid ⟨HS.out.at_.kept (Nat.le_refl _) fun _ _ => rfl, HS.out.bel.trans ((Grw.refl wr).drew.below.mono HS.out.bel.size), HS.out.done⟩
      clear HS
      generalize wr.drew = w1 at *
      refine stake (i := 0) (v := (.pointer (some ⟨gc, 0, none⟩))) 20 rfl (by kernel_rfl) (by kernel_rfl) (by kernel_rfl) (by kernel_rfl) (fun _ _ _ h => h) (.inl ⟨by kernel_rfl, fun w' hS => by (go_simp)⟩) hHeld ?_
      (try simp only [Act.put, List.setIfInBounds_toArray, List.set_cons_zero, List.set_cons_succ])
      refine stake (i := 1) (v := (.int .i64 (k : Int))) 21 rfl (by kernel_rfl) (by kernel_rfl) (by kernel_rfl) (by kernel_rfl) (fun _ _ _ h => h) (.inl ⟨by kernel_rfl, fun w' hS => by (go_simp)⟩) hHeld ?_
      (try simp only [Act.put, List.setIfInBounds_toArray, List.set_cons_zero, List.set_cons_succ])
      refine stake (i := 2) (v := (.slice sa sn sc)) 22 rfl (by kernel_rfl) (by kernel_rfl) (by kernel_rfl) (by kernel_rfl) (fun _ _ _ h => h) (.inl ⟨by kernel_rfl, fun w' hS => by (go_simp)⟩) hHeld ?_
      (try simp only [Act.put, List.setIfInBounds_toArray, List.set_cons_zero, List.set_cons_succ])
      refine stake (i := 4) (v := (.pointer (some ⟨gc, 0, none⟩))) 24 rfl (by kernel_rfl) (by kernel_rfl) (by kernel_rfl) (by kernel_rfl) (fun _ _ _ h => h) (.inl ⟨by kernel_rfl, fun w' hS => by (go_simp)⟩) hHeld ?_
      (try simp only [Act.put, List.setIfInBounds_toArray, List.set_cons_zero, List.set_cons_succ])
      refine stake (i := 5) (v := (.pointer (some ⟨gc, 64, none⟩))) 25 rfl (by kernel_rfl) (by kernel_rfl) (by kernel_rfl) (by kernel_rfl) (fun _ _ _ h => h) (.inl ⟨by kernel_rfl, fun w' hS => by (go_simp)⟩) hHeld ?_
      (try simp only [Act.put, List.setIfInBounds_toArray, List.set_cons_zero, List.set_cons_succ])
      have hslot := (HH.out.slot k hlt).below HS1.out.bel
      rw [HSL.out] at hslot
      have hbk := HH.out.bnd k hlt
      have hlk := HH.out.len k hlt
      rw [HSL.out] at hlk
      simp only at hlk
      have P3 := hown_any ⟨sa, sn, sc⟩ (X k) w1 hslot.lst hslot.cap0 (fun x hx => by
        have := HH.out.deps k hlt x hx
        exact ⟨this.deps.below HS1.out.bel, this.few⟩) (by show sn ≤ 100000; omega)
      have HBK := Lib.hid hbk
      clear hslot hbk hlk
      refine wpAnyH_ready (rs := [3]) (by kernel_rfl) (by simp) (AllReadyH.cons rfl (fun K hK => ?_) AllReadyH.nil)
      clear hHeld
      rw [if_pos (by kernel_rfl)]
      go_simp
      refine P3.mono ?_
      rintro e w2 ⟨⟨ya, yn, yc⟩, Y, rfl, hO, hY, hB2, _⟩
      have hyl : Y.length = (X k).length := by have := congrArg List.length hY; simpa using this
      have c9 : w2.cell? ⟨gc, 64 + k, none⟩ = some (.slice (sl2 k).a (sl2 k).n (sl2 k).c) := cell_later hB2 (HS1.out.at_.cs k hlt)
      have f9 : w2.frozen? ⟨gc, 64 + k, none⟩ = false := (HS1.out.at_.below hB2).free _
      have HN : Hid (CpSt w (w2.setCell ⟨gc, 64 + k, none⟩ (.slice ya yn yc)) gc N lo X (k + 1) (updF sl2 k ⟨ya, yn, yc⟩) (updF X2 k Y)) := Lib.hid ⟨HS1.out.at_.fill HS1.out.bel.size hlt hB2 hO (by rw [hyl]; exact HBK.out),
        (HS1.out.bel.trans (hB2.mono HS1.out.bel.size)).setCell (by have := HS1.out.at_.fg.1; exact this) _, fun p hp => by
          by_cases e : p = k
          · subst e; rw [updF_same]; exact hY
          · rw [updF_other _ _ _ _ e]; exact HS1.out.done p (by omega)⟩
      refine hK.out _ _ trivial (fun hHeld => ?_)
      clear hK K P3 hO hY hB2 hyl HS1
      (try simp only [Act.put, List.setIfInBounds_toArray, List.set_cons_zero, List.set_cons_succ])
      refine stake (i := 6) (v := (.pointer (some ⟨gc, 64 + k, none⟩))) 26 rfl (by kernel_rfl) (by kernel_rfl) (by kernel_rfl) (by kernel_rfl) (fun _ _ _ h => h) (.inl ⟨by kernel_rfl, fun w' hS => by (go_simp)⟩) hHeld ?_
      (try simp only [Act.put, List.setIfInBounds_toArray, List.set_cons_zero, List.set_cons_succ])
      refine wpAnyH_ready (rs := [7]) (by kernel_rfl) (by simp) (AllReadyH.cons rfl (fun K hK => ?_) AllReadyH.nil)
      clear hHeld
      rw [if_pos (by kernel_rfl)]
      go_simp
      refine hK.out _ _ trivial (fun hHeld => ?_)
      clear hK K hHeld c9 f9
      refine wpAnyH_done (by kernel_rfl) ?_ _
      go_wp2
      go_roundw
      case rel => exact ⟨k + 1, _, _, by omega, by go_num, HN⟩
      case measure => simp [intOf]; omega
    · have hs := HS.out
      obtain rfl : k = 64 := by omega
      go_wp2
      go_ret
      exact ⟨gc, sl2, X2, rfl, hs.at_, hs.bel, hs.done⟩
end
end Go.Proofs.Ytfocjcdfpnbkjaa
