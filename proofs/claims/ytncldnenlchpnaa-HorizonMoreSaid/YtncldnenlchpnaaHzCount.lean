/- count: promises of which so many came count. -/
import Derived.Test.YtncldnenlchpnaaHzWait
set_option linter.unusedVariables false
set_option linter.unusedSimpArgs false
namespace Go.Proofs.Ytncldnenlchpnaa
open Go.RowKit Go.Sort Go.Shelf

/-- What stands while 'count' goes on: behind w; the horizon is C now. -/
structure CtZ (w V : World) (g B bp bm k : Nat) (C : Hz) (s : ZSl) : Prop where
  at_ : HzAt V g B C s
  mv : ZMoved w V g s.a s.a
  c1 : V.cell? ⟨bp, 0, none⟩ = some (.int .i64 (k : Int))
  c2 : V.cell? ⟨bm, 0, none⟩ = some (.pointer (some ⟨g, 2 + k * 3, none⟩))
  n1 : w.heap.size ≤ bp
  n2 : w.heap.size ≤ bm
  gl : g < w.heap.size
  rl : ∀ x, s.a = some x → x.block < w.heap.size
theorem CtZ.below {w V V' : World} {g B bp bm k : Nat} {C : Hz} {s : ZSl} (h : CtZ w V g B bp bm k C s) (hb : Below V.heap.size V V') : CtZ w V' g B bp bm k C s :=
  ⟨h.at_.below hb, h.mv.then hb, cell_later hb h.c1, cell_later hb h.c2, h.n1, h.n2, h.gl, h.rl⟩
theorem CtZ.mark {w V : World} {g B bp bm k : Nat} {C : Hz} {s : ZSl} (h : CtZ w V g B bp bm k C s) (hk : k < 64) (c : Nat) (hc : c < 3) (v : Value) (m : Mk) (he : encK m = (encK (C.mks k)).set c v) (hok : (markZ C k m).ok) : CtZ w (V.setCell ⟨g, 2 + k * 3 + c, none⟩ v) g B bp bm k (markZ C k m) s := by
  obtain ⟨h1, h2⟩ := h.at_.mark k hk c hc v m he hok
  have hg := grown_set13 V g (2 + k * 3 + c) v
  have e1 : bp ≠ g := by have := h.n1; have := h.gl; omega
  have e2 : bm ≠ g := by have := h.n2; have := h.gl; omega
  exact ⟨h1, h.mv.trans h2, (World.cell?_of_block (a := ⟨bp, 0, none⟩) (hg.block bp (World.block_lt_of_cell? _ _ h.c1) (by intro e; cases e; exact e1 rfl))).trans h.c1, (World.cell?_of_block (a := ⟨bm, 0, none⟩) (hg.block bm (World.block_lt_of_cell? _ _ h.c2) (by intro e; cases e; exact e2 rfl))).trans h.c2, h.n1, h.n2, h.gl, h.rl⟩
/-- The predicate of the promises that are done, whatever the row has become. -/
theorem CtZ.pred {w V W : World} {g B bp bm k : Nat} {C : Hz} {s : ZSl} (h : CtZ w V g B bp bm k C s) (hk : k < 64) (hg : V.grownBy W s.v.ownBlock) (x : Pm) :
    Calls Try.prog 35 #[.agg #[.int .i64 x.frm, .int .u64 (x.st : Int), .int .u32 (x.sn : Int)], .pointer (some ⟨bp, 0, none⟩), .pointer (some ⟨bm, 0, none⟩)] W fun e w' => e = .returned (.bool (doneP (k : Int) (C.mks k).hd x)) ∧ Below W.heap.size W w' := by
  have far : ∀ j, (w.heap.size ≤ j ∨ j = g) → some j ≠ s.v.ownBlock := fun j hj e => by
    obtain ⟨y, hy, hb⟩ := ZSl.block e.symm
    rcases hj with hj | hj
    · have := h.rl y hy; omega
    · exact h.at_.ne y hy (hb.trans hj)
  have kc : ∀ (j o : Nat) (v : Value), (w.heap.size ≤ j ∨ j = g) → V.cell? ⟨j, o, none⟩ = some v → W.cell? ⟨j, o, none⟩ = some v := fun j o v hj hc =>
    (World.cell?_of_block (a := ⟨j, o, none⟩) (hg.block j (World.block_lt_of_cell? _ _ hc) (far j hj))).trans hc
  exact zdone x W bp bm g k (k : Int) (C.mks k).hd (kc bp 0 _ (.inl h.n1) h.c1) (kc bm 0 _ (.inl h.n2) h.c2) (kc g _ _ (.inr rfl) (h.at_.k0 k hk))
/-- The mark of k, so far. -/
def soFar (H : Hz) (k i : Nat) : Mk := ⟨heardL (k : Int) (H.mks k).cm (H.wait.take i) (H.mks k).hd, (H.mks k).rc, (H.mks k).cm⟩
theorem soFar_zero (H : Hz) (k : Nat) : markZ H k (soFar H k 0) = H := by
  unfold soFar markZ
  rw [List.take_zero, heardL_nil, updM_same]
theorem soFar_twice (H : Hz) (k : Nat) (m m' : Mk) : markZ (markZ H k m) k m' = markZ H k m' := by
  unfold markZ; simp only [updM_twice]
theorem soFar_at (H : Hz) (k : Nat) (m : Mk) : (markZ H k m).mks k = m := updM_at _ _ _
theorem soFar_ok {H : Hz} (h : H.ok) (k i : Nat) : (markZ H k (soFar H k i)).ok :=
  ok_mark h k (heardL_lt _ _ _ _ (fun a ha => h.s a (List.mem_of_mem_take ha)) _ (h.h k)) (h.r k) (h.n k)
section
variable {w : World} {g B : Nat} {H : Hz} {s : ZSl}
theorem zcount_round_facts (H : Hz) (k i : Nat) (x : Pm) (hx : H.wait[i]? = some x) :
    (hits (k : Int) (H.mks k).cm x = true → soFar H k (i + 1) = ⟨max (soFar H k i).hd x.st, (H.mks k).rc, (H.mks k).cm⟩) ∧ (hits (k : Int) (H.mks k).cm x = false → soFar H k (i + 1) = soFar H k i) := by
  refine ⟨fun h => ?_, fun h => ?_⟩
  · unfold soFar; rw [heardL_yes hx h]
  · unfold soFar; rw [heardL_no hx h]
set_option maxHeartbeats 8000000 in
set_option maxRecDepth 100000 in
theorem zcount (h : HzAt w g B H s) (hn : s.n ≤ 100000) (k : Nat) (hk : k < 64) :
    Calls Try.prog 28 #[.pointer (some ⟨g, 0, none⟩), .int .i64 (k : Int)] w fun e w' => e = .returned (.tuple #[]) ∧ Gone13 w w' g B s (countZ H k) := by
  have BB := ((Grw.refl w).alloc (.cells #[.int .i64 (k : Int)] 3)).below
  have hk' : (k : Int) < 64 := by omega
  have H0 := Lib.hid (show CtZ w (((w.alloc (.cells #[.int .i64 (k : Int)] 3)).alloc (.cells #[.pointer (some ⟨g, 2 + k * 3, none⟩)] 51)).drew) g B w.heap.size (w.heap.size + 1) k H s from by
    have B2 := (((Grw.refl w).alloc (.cells #[.int .i64 (k : Int)] 3)).alloc (.cells #[.pointer (some ⟨g, 2 + k * 3, none⟩)] 51)).drew.below
    have N1 := Own.new w 3 #[.int .i64 (k : Int)]
    have N2 := Own.new (w.alloc (.cells #[.int .i64 (k : Int)] 3)) 51 #[.pointer (some ⟨g, 2 + k * 3, none⟩)]
    rw [show (w.alloc (.cells #[.int .i64 (k : Int)] 3)).heap.size = w.heap.size + 1 by simp] at N2
    have N1 := N1.below ((Grw.refl (w.alloc (.cells #[.int .i64 (k : Int)] 3))).alloc (.cells #[.pointer (some ⟨g, 2 + k * 3, none⟩)] 51)).below N1.lt
    exact ⟨h.below B2, ZMoved.of_below B2 _ _, N1.at_ 0 _ rfl, N2.at_ 0 _ rfl, Nat.le_refl _, Nat.le_succ _, h.lt, fun x hx => h.row.lt x hx⟩)
  have HLEN := Lib.hid h.row.len
  have HOK := Lib.hid h.ok
  have HF0 := Lib.hid (soFar_zero H k)
  obtain ⟨ao, n, cap⟩ := s
  change Hid (H.wait.length = n) at HLEN
  simp only at hn
  clear h BB
  go_enter Try.func28, Try.ntmps28
  go_upto_region 1 with fail
  go_region
  generalize ((w.alloc (.cells #[.int .i64 (k : Int)] 3)).alloc (.cells #[.pointer (some ⟨g, 2 + k * 3, none⟩)] 51)).drew = W0 at *
  obtain ⟨bp, hbp⟩ : ∃ bp, bp = w.heap.size := ⟨_, rfl⟩
  obtain ⟨bm, hbm⟩ : ∃ bm, bm = w.heap.size + 1 := ⟨_, rfl⟩
  rw [← hbm, ← hbp] at H0
  rw [← hbm, ← hbp]
  replace hbp := Lib.hid hbp
  replace hbm := Lib.hid hbm
  have c := H0.out.at_.cw
  change W0.cell? ⟨g, 194, none⟩ = some (.slice ao n cap) at c
  go_wp2
  go_loopw [17] (fun si wr => ∃ i : Nat, i ≤ n ∧ si = .int .i64 i ∧ Aside (CtZ w wr g B bp bm k (markZ H k (soFar H k i)) ⟨ao, n, cap⟩)) (fun si _ => n - (intOf si).toNat)
  case atStart => exact ⟨0, Nat.zero_le _, rfl, by rw [HF0.out]; exact H0.out⟩
  case round =>
    obtain ⟨i, hi, rfl, C⟩ := hrel
    clear H0 c
    by_cases hlt : i < n
    · have hil : i < H.wait.length := by rw [HLEN.out]; omega
      have hL := C.out.at_.row.lst
      change Lst encP 3 wr ao n H.wait at hL
      obtain ⟨b, o, rfl, R⟩ := hL.src (by omega)
      have hx := List.getElem?_eq_getElem hil
      have hm := List.getElem_mem hil
      generalize H.wait[i] = x at hx hm
      have HR := Lib.hid (ZSlot.rng (n := n) R i x hx)
      have HY := Lib.hid (zcount_round_facts H k i x hx)
      have B4 := ((Grw.refl wr).alloc (.cells #[.int .i64 x.frm, .int .u64 (x.st : Int), .int .u32 (x.sn : Int)] 59)).below
      have hst := HOK.out.s x hm
      have C4 := Lib.hid (C.out.below B4)
      have P4 := Lib.hid (PmB.new wr x)
      clear hL R hx hm hil B4 C
      go_upto_region 5 with (with_reducible refine load_pm rfl (.tmp 19) rfl b (o + i * 3) x rfl HR.out ?_)
      clear HR
      generalize wr.alloc (.cells #[.int .i64 x.frm, .int .u64 (x.st : Int), .int .u32 (x.sn : Int)] 59) = V at *
      generalize wr.heap.size = q at *
      have c1 := C4.out.c1
      have c2 := C4.out.c2
      have k2 := C4.out.at_.k2 k hk
      rw [soFar_at] at k2
      change V.cell? ⟨g, 2 + k * 3 + 2, none⟩ = some (.int .u32 ((H.mks k).cm : Int)) at k2
      have e0 := P4.out.own.at_ 0 _ rfl
      have e2 := P4.out.own.at_ 2 _ rfl
      have HC := Lib.hid (hits_cast (k : Int) (H.mks k).cm x)
      obtain ⟨cm, hcm⟩ : ∃ cm, cm = (H.mks k).cm := ⟨_, rfl⟩
      rw [← hcm] at k2 HC HY
      have HCM := Lib.hid hcm
      clear hcm
      obtain ⟨f, st, sn⟩ := x
      simp only at *
      cases t1 : (f == (k : Int)) with
      | false =>
        have HZ := Lib.hid (HY.out.2 (by rw [HC.out, t1]; rfl))
        clear HY HC
        go_quiet (fail)
        have C5 := Lib.hid (C4.out.below ((Grw.refl V).drewN nq).below)
        clear C4 P4 c1 c2 k2 e0 e2
        go_wp2
        go_roundw
        case rel => exact ⟨i + 1, by omega, by go_num, by rw [HZ.out]; exact C5.out⟩
        case measure => simp [intOf]; omega
      | true =>
        cases t2 : decide (sn ≤ cm) with
        | false =>
          have HZ := Lib.hid (HY.out.2 (by rw [HC.out, t1, t2]; rfl))
          clear HY HC
          go_quiet (fail)
          have C5 := Lib.hid (C4.out.below ((Grw.refl V).drewN nq).below)
          clear C4 P4 c1 c2 k2 e0 e2
          go_wp2
          go_roundw
          case rel => exact ⟨i + 1, by omega, by go_num, by rw [HZ.out]; exact C5.out⟩
          case measure => simp [intOf]; omega
        | true =>
          have HZ := Lib.hid (HY.out.1 (by rw [HC.out, t1, t2]; rfl))
          clear HY HC
          go_quiet (fail)
          have C5 := Lib.hid ((C4.out.below ((Grw.refl V).drewN nq).below).below (Grw.refl _).drew.below)
          have P5 := Lib.hid ((P4.out.later ((Grw.refl V).drewN nq).below).later (Grw.refl _).drew.below)
          clear C4 P4 c1 c2 k2 e0 e2 t1 t2
          generalize V.drewN nq = V5 at *
          have c2 := C5.out.c2
          have k0 := C5.out.at_.k0 k hk
          rw [soFar_at] at k0
          have f0 := C5.out.at_.free (2 + k * 3)
          have e1 := P5.out.own.at_ 1 _ rfl
          change V5.drew.cell? ⟨q, 1, none⟩ = some (.int .u64 (st : Int)) at e1
          go_upto_region 6 with fail
          go_still_tail 10, (by kernel_rfl)
          change wpList _ _ _ _ _ V5.drew
          have hyb : (soFar H k i).hd < 18446744073709551616 := (soFar_ok HOK.out k i).h k |> fun h => by rw [soFar_at] at h; exact h
          obtain ⟨z, hz⟩ : ∃ z, z = max (soFar H k i).hd st := ⟨_, rfl⟩
          have C6 := C5.out.mark hk 0 (by decide) (.int .u64 (z : Int)) ⟨z, (H.mks k).rc, (H.mks k).cm⟩ (by rw [soFar_at]; rfl) (by rw [soFar_twice]; exact ok_mark HOK.out k (by show z < _; omega) (HOK.out.r k) (HOK.out.n k))
          rw [soFar_twice] at C6
          have HZ2 := Lib.hid (show soFar H k (i + 1) = ⟨z, (H.mks k).rc, (H.mks k).cm⟩ by rw [HZ.out, hz, HCM.out])
          have hzi : max ((soFar H k i).hd : Int) (st : Int) = (z : Int) := by omega
          have C6 := Lib.hid C6
          generalize (soFar H k i).hd = y at *
          clear hz hyb C5 P5 HZ
          generalize V5.drew = V6 at *
          go_wp2
          go_roundw
          case rel => exact ⟨i + 1, by omega, by go_num, by rw [HZ2.out]; exact C6.out⟩
          case measure => simp [intOf]; omega
    · obtain rfl : i = n := by omega
      have e1 : soFar H k i = { H.mks k with hd := nowH H k } := by unfold soFar nowH; rw [List.take_of_length_le (by rw [HLEN.out]; exact Nat.le_refl _)]
      have C1 := C.out
      rw [e1] at C1
      have HN := Lib.hid (zdelSA (w := wr) C1.at_.row (by show i ≤ 200000; omega) 35 #[.pointer (some ⟨bp, 0, none⟩), .pointer (some ⟨bm, 0, none⟩)] (enters_of Try.func35 (by kernel_rfl) rfl) (fun x => doneP (k : Int) (nowH H k) x) (fun W x hg hx => by
        have := C1.pred hk hg x
        rw [soFar_at] at this
        exact this))
      have c := C1.at_.cw
      change wr.cell? ⟨g, 194, none⟩ = some (.slice ao i cap) at c
      have HC1 := Lib.hid C1
      clear C C1 e1
      go_wp2_with fail
      refine HN.out.mono ?_
      rintro e w2 ⟨s1, rfl, hsl, hsa, hsn, hg⟩
      have hne : some g ≠ (ZSl.v ⟨ao, i, cap⟩).ownBlock := fun e => by
        obtain ⟨x, hx, hb⟩ := ZSl.block e.symm
        exact HC1.out.at_.ne x hx hb
      have hh := hg.block g HC1.out.at_.lt hne
      have c9 : w2.cell? ⟨g, 194, none⟩ = some (.slice ao i cap) := (World.cell?_of_block (a := ⟨g, 194, none⟩) hh).trans c
      have f9 : w2.frozen? ⟨g, 194, none⟩ = false := (World.frozen?_of_block (a := ⟨g, 194, none⟩) hh).trans (HC1.out.at_.free 194)
      have hF := HC1.out.at_.rowed (w1 := w2) (s' := s1) (by
        rw [hsa]
        exact ZMoved.of_grown hg _ fun k e => by
          obtain ⟨x, hx, hb⟩ := ZSl.block e
          exact .inr ⟨x, hx, hb.symm⟩) hh _ hsl (by have := ok_count HOK.out k; exact this)
      have HF := Lib.hid (show HzAt (w2.setCell ⟨g, 194, none⟩ s1.v) g B (countZ H k) s1 ∧ ZMoved w (w2.setCell ⟨g, 194, none⟩ s1.v) g ao s1.a from ⟨hF.1, HC1.out.mv.trans hF.2⟩)
      clear HN hsl hsa hsn hg hne hh c HC1 hF
      obtain ⟨pa, pn, pc⟩ := s1
      unfold ZSl.v at HF
      simp only at HF
      (try unfold ZSl.v)
      go_wp2
      go_end0
      exact ⟨rfl, Gone13.mk' HF.out.1 HF.out.2⟩
end
end Go.Proofs.Ytncldnenlchpnaa
