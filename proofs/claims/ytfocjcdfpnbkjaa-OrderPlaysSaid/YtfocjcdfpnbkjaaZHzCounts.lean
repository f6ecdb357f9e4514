/- count: promises of which so many came count. -/
import Derived.Test.YtfocjcdfpnbkjaaZHzWait
import Derived.Shelf.SlLaysE0
import Derived.Shelf.SlicesE.Clone
set_option linter.unusedVariables false
set_option linter.unusedSimpArgs false
namespace Go.Proofs.Ytfocjcdfpnbkjaa
open Go.RowKit Go.Sort Go.Shelf

/-- What stands while 'count' goes on: behind w; the horizon is C now. -/
structure CtZ (w V : World) (g B bp bm k : Nat) (C : Hz) (s : ZSl) : Prop where
  at_ : HzAt V g B C s
  mv : ZMoved w V g s.a s.a
  c1 : V.cell? ⟨bp, 0, none⟩ = some (.int .i64 (k : Int))
  c2 : V.cell? ⟨bm, 0, none⟩ = some (.pointer (some ⟨g, 2 + k * 3, none⟩))
  n1 : w.heap.size ≤ bp
  n2 : w.heap.size ≤ bm
  gl : g < w.heap.size
  rl : ∀ x, s.a = some x → x.block < w.heap.size
theorem CtZ.below {w V V' : World} {g B bp bm k : Nat} {C : Hz} {s : ZSl} (h : CtZ w V g B bp bm k C s) (hb : Below V.heap.size V V') : CtZ w V' g B bp bm k C s :=
  ⟨h.at_.below hb, h.mv.then hb, cell_later hb h.c1, cell_later hb h.c2, h.n1, h.n2, h.gl, h.rl⟩
theorem CtZ.mark {w V : World} {g B bp bm k : Nat} {C : Hz} {s : ZSl} (h : CtZ w V g B bp bm k C s) (hk : k < 64) (c : Nat) (hc : c < 3) (v : Value) (m : Mk) (he : encK m = (encK (C.mks k)).set c v) (hok : (markZ C k m).ok) : CtZ w (V.setCell ⟨g, 2 + k * 3 + c, none⟩ v) g B bp bm k (markZ C k m) s := by
  obtain ⟨h1, h2⟩ := h.at_.mark k hk c hc v m he hok
  have hg := grown_set13 V g (2 + k * 3 + c) v
  have e1 : bp ≠ g := by have := h.n1; have := h.gl; omega
  have e2 : bm ≠ g := by have := h.n2; have := h.gl; omega
  exact ⟨h1, h.mv.trans h2, (World.cell?_of_block (a := ⟨bp, 0, none⟩) (hg.block bp (World.block_lt_of_cell? _ _ h.c1) (by intro e; cases e; exact e1 rfl))).trans h.c1, (World.cell?_of_block (a := ⟨bm, 0, none⟩) (hg.block bm (World.block_lt_of_cell? _ _ h.c2) (by intro e; cases e; exact e2 rfl))).trans h.c2, h.n1, h.n2, h.gl, h.rl⟩
/-- The predicate of the promises that are done, whatever the row has become. -/
theorem CtZ.pred {w V W : World} {g B bp bm k : Nat} {C : Hz} {s : ZSl} (h : CtZ w V g B bp bm k C s) (hk : k < 64) (hg : V.grownBy W s.v.ownBlock) (x : Pm) :
    Calls Try.prog 125 #[.agg #[.int .i64 x.frm, .int .u64 (x.st : Int), .int .u32 (x.sn : Int)], .pointer (some ⟨bp, 0, none⟩), .pointer (some ⟨bm, 0, none⟩)] W fun e w' => e = .returned (.bool (doneP (k : Int) (C.mks k).hd x)) ∧ Below W.heap.size W w' := by
  have far : ∀ j, (w.heap.size ≤ j ∨ j = g) → some j ≠ s.v.ownBlock := fun j hj e => by
    obtain ⟨y, hy, hb⟩ := ZSl.block e.symm
    rcases hj with hj | hj
    · have := h.rl y hy; omega
    · exact h.at_.ne y hy (hb.trans hj)
  have kc : ∀ (j o : Nat) (v : Value), (w.heap.size ≤ j ∨ j = g) → V.cell? ⟨j, o, none⟩ = some v → W.cell? ⟨j, o, none⟩ = some v := fun j o v hj hc =>
    (World.cell?_of_block (a := ⟨j, o, none⟩) (hg.block j (World.block_lt_of_cell? _ _ hc) (far j hj))).trans hc
  exact zdone x W bp bm g k (k : Int) (C.mks k).hd (kc bp 0 _ (.inl h.n1) h.c1) (kc bm 0 _ (.inl h.n2) h.c2) (kc g _ _ (.inr rfl) (h.at_.k0 k hk))
/-- The mark of k, so far. -/
def soFar (H : Hz) (k i : Nat) : Mk := ⟨heardL (k : Int) (H.mks k).cm (H.wait.take i) (H.mks k).hd, (H.mks k).rc, (H.mks k).cm⟩
theorem soFar_zero (H : Hz) (k : Nat) : markZ H k (soFar H k 0) = H := by
  unfold soFar markZ
  rw [List.take_zero, heardL_nil, updM_same]
theorem soFar_twice (H : Hz) (k : Nat) (m m' : Mk) : markZ (markZ H k m) k m' = markZ H k m' := by
  unfold markZ; simp only [updM_twice]
theorem soFar_at (H : Hz) (k : Nat) (m : Mk) : (markZ H k m).mks k = m := updM_at _ _ _
theorem soFar_ok {H : Hz} (h : H.ok) (k i : Nat) : (markZ H k (soFar H k i)).ok :=
  ok_mark h k (heardL_lt _ _ _ _ (fun a ha => h.s a (List.mem_of_mem_take ha)) _ (h.h k)) (h.r k) (h.n k)
section
variable {w : World} {g B : Nat} {H : Hz} {s : ZSl}
theorem zcount_round_facts (H : Hz) (k i : Nat) (x : Pm) (hx : H.wait[i]? = some x) :
    (hits (k : Int) (H.mks k).cm x = true → soFar H k (i + 1) = ⟨max (soFar H k i).hd x.st, (H.mks k).rc, (H.mks k).cm⟩) ∧ (hits (k : Int) (H.mks k).cm x = false → soFar H k (i + 1) = soFar H k i) := by
  refine ⟨fun h => ?_, fun h => ?_⟩
  · unfold soFar; rw [heardL_yes hx h]
  · unfold soFar; rw [heardL_no hx h]
set_option maxHeartbeats 8000000 in
set_option maxRecDepth 100000 in
theorem zcount (h : HzAt w g B H s) (hn : s.n ≤ 100000) (k : Nat) (hk : k < 64) :
    Calls Try.prog 86 #[.pointer (some ⟨g, 0, none⟩), .int .i64 (k : Int)] w fun e w' => e = .returned (.tuple #[]) ∧ Gone13 w w' g B s (countZ H k) := by
  have BB := ((Grw.refl w).alloc (.cells #[.int .i64 (k : Int)] 3)).below
  have hk' : (k : Int) < 64 := by omega
  have H0 := Lib.hid (show CtZ w (((w.alloc (.cells #[.int .i64 (k : Int)] 3)).alloc (.cells #[.pointer (some ⟨g, 2 + k * 3, none⟩)] 159)).drew) g B w.heap.size (w.heap.size + 1) k H s from by
    have B2 := (((Grw.refl w).alloc (.cells #[.int .i64 (k : Int)] 3)).alloc (.cells #[.pointer (some ⟨g, 2 + k * 3, none⟩)] 159)).drew.below
    have N1 := Own.new w 3 #[.int .i64 (k : Int)]
    have N2 := Own.new (w.alloc (.cells #[.int .i64 (k : Int)] 3)) 159 #[.pointer (some ⟨g, 2 + k * 3, none⟩)]
    rw [show (w.alloc (.cells #[.int .i64 (k : Int)] 3)).heap.size = w.heap.size + 1 by simp] at N2
    have N1 := N1.below ((Grw.refl (w.alloc (.cells #[.int .i64 (k : Int)] 3))).alloc (.cells #[.pointer (some ⟨g, 2 + k * 3, none⟩)] 159)).below N1.lt
    exact ⟨h.below B2, ZMoved.of_below B2 _ _, N1.at_ 0 _ rfl, N2.at_ 0 _ rfl, Nat.le_refl _, Nat.le_succ _, h.lt, fun x hx => h.row.lt x hx⟩)
  have HLEN := Lib.hid h.row.len
  have HOK := Lib.hid h.ok
  have HF0 := Lib.hid (soFar_zero H k)
  obtain ⟨ao, n, cap⟩ := s
  change Hid (H.wait.length = n) at HLEN
  simp only at hn
  clear h BB
  go_enter Try.func86, Try.ntmps86
  go_upto_region 1 with fail
  go_region
  generalize ((w.alloc (.cells #[.int .i64 (k : Int)] 3)).alloc (.cells #[.pointer (some ⟨g, 2 + k * 3, none⟩)] 159)).drew = W0 at *
  obtain ⟨bp, hbp⟩ : ∃ bp, bp = w.heap.size := ⟨_, rfl⟩
  obtain ⟨bm, hbm⟩ : ∃ bm, bm = w.heap.size + 1 := ⟨_, rfl⟩
  rw [← hbm, ← hbp] at H0
  rw [← hbm, ← hbp]
  replace hbp := Lib.hid hbp
  replace hbm := Lib.hid hbm
  have c := H0.out.at_.cw
  change W0.cell? ⟨g, 194, none⟩ = some (.slice ao n cap) at c
  go_wp2
  go_loopw [17] (fun si wr => ∃ i : Nat, i ≤ n ∧ si = .int .i64 i ∧ Aside (CtZ w wr g B bp bm k (markZ H k (soFar H k i)) ⟨ao, n, cap⟩)) (fun si _ => n - (intOf si).toNat)
  case atStart => exact ⟨0, Nat.zero_le _, rfl, by rw [HF0.out]; exact H0.out⟩
  case round =>
    obtain ⟨i, hi, rfl, C⟩ := hrel
    clear H0 c
    by_cases hlt : i < n
    · have hil : i < H.wait.length := by rw [HLEN.out]; omega
      have hL := C.out.at_.row.lst
      change Lst encP 3 wr ao n H.wait at hL
      obtain ⟨b, o, rfl, R⟩ := hL.src (by omega)
      have hx := List.getElem?_eq_getElem hil
      have hm := List.getElem_mem hil
      generalize H.wait[i] = x at hx hm
      have HR := Lib.hid (ZSlot.rng (n := n) R i x hx)
      have HY := Lib.hid (zcount_round_facts H k i x hx)
      have B4 := ((Grw.refl wr).alloc (.cells #[.int .i64 x.frm, .int .u64 (x.st : Int), .int .u32 (x.sn : Int)] 158)).below
      have hst := HOK.out.s x hm
      have C4 := Lib.hid (C.out.below B4)
      have P4 := Lib.hid (PmB.new wr x)
      clear hL R hx hm hil B4 C
      go_upto_region 5 with (with_reducible refine load_pm rfl (.tmp 19) rfl b (o + i * 3) x rfl HR.out ?_)
      clear HR
      generalize wr.alloc (.cells #[.int .i64 x.frm, .int .u64 (x.st : Int), .int .u32 (x.sn : Int)] 158) = V at *
      generalize wr.heap.size = q at *
      have c1 := C4.out.c1
      have c2 := C4.out.c2
      have k2 := C4.out.at_.k2 k hk
      rw [soFar_at] at k2
      change V.cell? ⟨g, 2 + k * 3 + 2, none⟩ = some (.int .u32 ((H.mks k).cm : Int)) at k2
      have e0 := P4.out.own.at_ 0 _ rfl
      have e2 := P4.out.own.at_ 2 _ rfl
      have HC := Lib.hid (hits_cast (k : Int) (H.mks k).cm x)
      obtain ⟨cm, hcm⟩ : ∃ cm, cm = (H.mks k).cm := ⟨_, rfl⟩
      rw [← hcm] at k2 HC HY
      have HCM := Lib.hid hcm
      clear hcm
      obtain ⟨f, st, sn⟩ := x
      simp only at *
      cases t1 : (f == (k : Int)) with
      | false =>
        have HZ := Lib.hid (HY.out.2 (by rw [HC.out, t1]; rfl))
        clear HY HC
        go_quiet (fail)
        have C5 := Lib.hid (C4.out.below ((Grw.refl V).drewN nq).below)
        clear C4 P4 c1 c2 k2 e0 e2
        go_wp2
        go_roundw
        case rel => exact ⟨i + 1, by omega, by go_num, by rw [HZ.out]; exact C5.out⟩
        case measure => simp [intOf]; omega
      | true =>
        cases t2 : decide (sn ≤ cm) with
        | false =>
          have HZ := Lib.hid (HY.out.2 (by rw [HC.out, t1, t2]; rfl))
          clear HY HC
          go_quiet (fail)
          have C5 := Lib.hid (C4.out.below ((Grw.refl V).drewN nq).below)
          clear C4 P4 c1 c2 k2 e0 e2
          go_wp2
          go_roundw
          case rel => exact ⟨i + 1, by omega, by go_num, by rw [HZ.out]; exact C5.out⟩
          case measure => simp [intOf]; omega
        | true =>
          have HZ := Lib.hid (HY.out.1 (by rw [HC.out, t1, t2]; rfl))
          clear HY HC
          go_quiet (fail)
          have C5 := Lib.hid ((C4.out.below ((Grw.refl V).drewN nq).below).below (Grw.refl _).drew.below)
          have P5 := Lib.hid ((P4.out.later ((Grw.refl V).drewN nq).below).later (Grw.refl _).drew.below)
          clear C4 P4 c1 c2 k2 e0 e2 t1 t2
          generalize V.drewN nq = V5 at *
          have c2 := C5.out.c2
          have k0 := C5.out.at_.k0 k hk
          rw [soFar_at] at k0
          have f0 := C5.out.at_.free (2 + k * 3)
          have e1 := P5.out.own.at_ 1 _ rfl
          change V5.drew.cell? ⟨q, 1, none⟩ = some (.int .u64 (st : Int)) at e1
          go_upto_region 6 with fail
          go_still_tail 10, (by kernel_rfl)
          change wpList _ _ _ _ _ V5.drew
          have hyb : (soFar H k i).hd < 18446744073709551616 := (soFar_ok HOK.out k i).h k |> fun h => by rw [soFar_at] at h; exact h
          obtain ⟨z, hz⟩ : ∃ z, z = max (soFar H k i).hd st := ⟨_, rfl⟩
          have C6 := C5.out.mark hk 0 (by decide) (.int .u64 (z : Int)) ⟨z, (H.mks k).rc, (H.mks k).cm⟩ (by rw [soFar_at]; rfl) (by rw [soFar_twice]; exact ok_mark HOK.out k (by show z < _; omega) (HOK.out.r k) (HOK.out.n k))
          rw [soFar_twice] at C6
          have HZ2 := Lib.hid (show soFar H k (i + 1) = ⟨z, (H.mks k).rc, (H.mks k).cm⟩ by rw [HZ.out, hz, HCM.out])
          have hzi : max ((soFar H k i).hd : Int) (st : Int) = (z : Int) := by omega
          have C6 := Lib.hid C6
          generalize (soFar H k i).hd = y at *
          clear hz hyb C5 P5 HZ
          generalize V5.drew = V6 at *
          go_wp2
          go_roundw
          case rel => exact ⟨i + 1, by omega, by go_num, by rw [HZ2.out]; exact C6.out⟩
          case measure => simp [intOf]; omega
    · obtain rfl : i = n := by omega
      have e1 : soFar H k i = { H.mks k with hd := nowH H k } := by unfold soFar nowH; rw [List.take_of_length_le (by rw [HLEN.out]; exact Nat.le_refl _)]
      have C1 := C.out
      rw [e1] at C1
      have HN := Lib.hid (zdelSA (w := wr) C1.at_.row (by show i ≤ 200000; omega) 125 #[.pointer (some ⟨bp, 0, none⟩), .pointer (some ⟨bm, 0, none⟩)] (enters_of Try.func125 (by kernel_rfl) rfl) (fun x => doneP (k : Int) (nowH H k) x) (fun W x hg hx => by
        have := C1.pred hk hg x
        rw [soFar_at] at this
        exact this))
      have c := C1.at_.cw
      change wr.cell? ⟨g, 194, none⟩ = some (.slice ao i cap) at c
      have HC1 := Lib.hid C1
      clear C C1 e1
      go_wp2_with fail
      refine HN.out.mono ?_
      rintro e w2 ⟨s1, rfl, hsl, hsa, hsn, hg⟩
      have hne : some g ≠ (ZSl.v ⟨ao, i, cap⟩).ownBlock := fun e => by
        obtain ⟨x, hx, hb⟩ := ZSl.block e.symm
        exact HC1.out.at_.ne x hx hb
      have hh := hg.block g HC1.out.at_.lt hne
      have c9 : w2.cell? ⟨g, 194, none⟩ = some (.slice ao i cap) := (World.cell?_of_block (a := ⟨g, 194, none⟩) hh).trans c
      have f9 : w2.frozen? ⟨g, 194, none⟩ = false := (World.frozen?_of_block (a := ⟨g, 194, none⟩) hh).trans (HC1.out.at_.free 194)
      have hF := HC1.out.at_.rowed (w1 := w2) (s' := s1) (by
        rw [hsa]
        exact ZMoved.of_grown hg _ fun k e => by
          obtain ⟨x, hx, hb⟩ := ZSl.block e
          exact .inr ⟨x, hx, hb.symm⟩) hh _ hsl (by have := ok_count HOK.out k; exact this)
      have HF := Lib.hid (show HzAt (w2.setCell ⟨g, 194, none⟩ s1.v) g B (countZ H k) s1 ∧ ZMoved w (w2.setCell ⟨g, 194, none⟩ s1.v) g ao s1.a from ⟨hF.1, HC1.out.mv.trans hF.2⟩)
      clear HN hsl hsa hsn hg hne hh c HC1 hF
      obtain ⟨pa, pn, pc⟩ := s1
      unfold ZSl.v at HF
      simp only at HF
      (try unfold ZSl.v)
      go_wp2
      go_end0
      exact ⟨rfl, Gone13.mk' HF.out.1 HF.out.2⟩
end
end Go.Proofs.Ytfocjcdfpnbkjaa

/- Came, Promise, Copy. -/
set_option linter.unusedVariables false
set_option linter.unusedSimpArgs false
namespace Go.Proofs.Ytfocjcdfpnbkjaa
open Go.RowKit Go.Sort Go.Shelf

theorem Gone13.after {w w1 w' : World} {g B : Nat} {s s1 : ZSl} {H' : Hz} (h : Gone13 w1 w' g B s1 H') (m : ZMoved w w1 g s.a s1.a) : Gone13 w w' g B s H' := by
  obtain ⟨s', h1, h2⟩ := h.ex
  exact ⟨⟨s', h1, m.trans h2⟩⟩
section
variable {w : World} {g B : Nat} {H : Hz} {s : ZSl}
theorem HzAt.few (h : HzAt w g B H s) {N : Nat} (hn : H.wait.length ≤ N) : s.n ≤ N := by rw [← h.row.len]; exact hn
set_option maxHeartbeats 4000000 in
theorem zcame (h : HzAt w g B H s) (hn : H.wait.length ≤ 100000) (p : Int) (p0 : -9223372036854775808 ≤ p) (p1 : p ≤ 9223372036854775807) (seq st : Nat) (hq : seq < 4294967296) (hs : st < 18446744073709551616) :
    Calls Try.prog 84 #[.pointer (some ⟨g, 0, none⟩), .int .i64 p, .int .u32 (seq : Int), .int .u64 (st : Int)] w fun e w' => e = .returned (.tuple #[]) ∧ Gone13 w w' g B s (cameZ H p seq st) := by
  have c0 := h.c0
  have M := has_any H.oth p w h.ok.o p0 p1
  cases hm : mem H.oth p with
  | false =>
    rw [cameZ_no hm]
    rw [hm] at M
    have HH := Lib.hid h
    clear h hm
    go_enter Try.func84, Try.ntmps84
    go_wp2_with (go_at_call 57; refine M.mono ?_; rintro e w' ⟨rfl, rfl⟩)
    (try simp only [Exit.inBlock, Exit.then]); refine bodyPost_ret (results_none rfl _ _ _) rfl ?_
    exact ⟨rfl, Gone13.mk' HH.out (ZMoved.refl _ _ _)⟩
  | true =>
    rw [cameZ_yes hm]
    rw [hm] at M
    obtain ⟨k, rfl, hk, -⟩ := mem_nat13 hm
    rw [Int.toNat_natCast]
    have hk' : (k : Int) < 64 := by omega
    have KS := zsee h st hs
    have hr := h.ok.h k
    have hok := ok_see h.ok hs
    obtain ⟨z, hz⟩ : ∃ z, z = max (H.mks k).hd st := ⟨_, rfl⟩
    have hzi : max ((H.mks k).hd : Int) (st : Int) = (z : Int) := by omega
    have hzb : z < 18446744073709551616 := by omega
    rw [← hz]
    have HM := Lib.hid (show markZ (markZ (seeZ H st) k ⟨(H.mks k).hd, (H.mks k).rc, seq⟩) k ⟨z, (H.mks k).rc, seq⟩ = markZ (seeZ H st) k ⟨z, (H.mks k).rc, seq⟩ from soFar_twice _ _ _ _)
    have HMK := Lib.hid (show (seeZ H st).mks k = H.mks k from rfl)
    have HR := Lib.hid (h.ok.r k)
    have HHd := Lib.hid hr
    have HOK := Lib.hid hok
    have HN := Lib.hid (show (markZ (seeZ H st) k ⟨z, (H.mks k).rc, seq⟩).wait.length ≤ 100000 from hn)
    clear h hm hz hr hok hn
    go_enter Try.func84, Try.ntmps84
    go_wp2_with (first | (go_at_call 57; refine M.mono ?_; rintro e w' ⟨rfl, rfl⟩) | fail)
    refine KS.mono ?_
    rintro e w1 ⟨rfl, A1, V1⟩
    have k0 := A1.k0 k hk
    rw [HMK.out] at k0
    have k2 := A1.k2 k hk
    have f0 := A1.free (2 + k * 3)
    have f2 := A1.free (2 + k * 3 + 2)
    obtain ⟨A2, V2⟩ := A1.mark k hk 2 (by decide) (.int .u32 (seq : Int)) ⟨(H.mks k).hd, (H.mks k).rc, seq⟩ rfl (ok_mark HOK.out k HHd.out HR.out hq)
    obtain ⟨A3, V3⟩ := A2.mark k hk 0 (by decide) (.int .u64 (z : Int)) ⟨z, (H.mks k).rc, seq⟩ (by rw [soFar_at]; rfl) (by rw [HM.out]; exact ok_mark HOK.out k hzb HR.out hq)
    rw [HM.out] at A3
    have KC := Lib.hid (zcount A3 (A3.few HN.out) k hk)
    have HV := Lib.hid ((V1.trans V2).trans V3)
    generalize (H.mks k).hd = hd at *
    clear M KS A1 V1 A2 V2 A3 V3 c0 HM HMK HR HHd HOK HN
    go_wp2_with fail
    refine KC.out.mono ?_
    rintro e w4 ⟨rfl, G⟩
    have HG := Lib.hid (G.after (s := s) HV.out)
    clear G KC HV k0 k2 f0 f2
    go_wp2
    go_end0
    exact ⟨rfl, HG.out⟩
set_option maxHeartbeats 4000000 in
theorem zprom (h : HzAt w g B H s) (hn : H.wait.length ≤ 99999) (p : Int) (p0 : -9223372036854775808 ≤ p) (p1 : p ≤ 9223372036854775807) (st sn : Nat) (hs : st < 18446744073709551616) (hq : sn < 4294967296) :
    Calls Try.prog 34 #[.pointer (some ⟨g, 0, none⟩), .int .i64 p, .int .u64 (st : Int), .int .u32 (sn : Int)] w fun e w' => e = .returned (.tuple #[]) ∧ Gone13 w w' g B s (promZ H p st sn) := by
  have c0 := h.c0
  have M := has_any H.oth p w h.ok.o p0 p1
  cases hm : mem H.oth p with
  | false =>
    rw [promZ_no hm]
    rw [hm] at M
    have HH := Lib.hid h
    clear h hm
    go_enter Try.func34, Try.ntmps34
    go_wp2_with (go_at_call 57; refine M.mono ?_; rintro e w' ⟨rfl, rfl⟩)
    (try simp only [Exit.inBlock, Exit.then]); refine bodyPost_ret (results_none rfl _ _ _) rfl ?_
    exact ⟨rfl, Gone13.mk' HH.out (ZMoved.refl _ _ _)⟩
  | true =>
    rw [promZ_yes hm]
    rw [hm] at M
    obtain ⟨k, rfl, hk, -⟩ := mem_nat13 hm
    rw [Int.toNat_natCast]
    have KS := zsee h st hs
    have HN := Lib.hid hn
    clear h hm hn
    go_enter Try.func34, Try.ntmps34
    go_wp2_with (first | (go_at_call 57; refine M.mono ?_; rintro e w' ⟨rfl, rfl⟩) | fail)
    refine KS.mono ?_
    rintro e w1 ⟨rfl, A1, V1⟩
    have KW := Lib.hid (zwait A1 (A1.few (N := 100000) (by show H.wait.length ≤ 100000; have := HN.out; omega)) ⟨(k : Int), st, sn⟩ p0 p1 hs hq)
    have HV := Lib.hid V1
    clear M KS A1 V1 c0
    go_wp2_with fail
    refine KW.out.mono ?_
    rintro e w2 ⟨rfl, G⟩
    obtain ⟨s2, A2, V2⟩ := G.ex
    have KC := Lib.hid (zcount A2 (A2.few (N := 100000) (by show (waitL H.wait ⟨(k : Int), st, sn⟩).length ≤ 100000; have := HN.out; have := waitL_length H.wait ⟨(k : Int), st, sn⟩; omega)) k hk)
    have HV2 := Lib.hid (HV.out.trans V2)
    clear G A2 V2 HV KW
    go_wp2_with fail
    refine KC.out.mono ?_
    rintro e w3 ⟨rfl, G⟩
    have HG := Lib.hid (G.after (s := s) HV2.out)
    clear G KC HV2
    go_wp2
    go_end0
    exact ⟨rfl, HG.out⟩
end
def cloneRenZ : Go.Shelf.Ren := ⟨fun | 41 => 126 | n => n, fun | 4 => 4 | 22 => 144 | 23 => 158 | n => n, fun n => n⟩
theorem cloneLaysZ : SlLaysE0.n41 Try.prog cloneRenZ := {
  mixed := by kernel_rfl
  f41 := ⟨Try.f126.name, by decide +kernel, by kernel_rfl⟩
  t4 := Try.underlying4
  a4 := Try.isAgg4
  z4 := Try.sizeOf4
  v4 := Try.zeroValue4
  t22 := Try.underlying144
  a22 := Try.isAgg144
  z22 := Try.sizeOf144
  v22 := Try.zeroValue144 }
/-- What Clone answers: a row like it, in new memory. -/
def ClonedZ (w : World) (X : List Pm) (e : Ending) (w' : World) : Prop := ∃ s' : ZSl, e = .returned s'.v ∧ ZSlot w' s' X ∧ (∀ x, s'.a = some x → w.heap.size ≤ x.block) ∧ Go.RowKit.Below w.heap.size w w'
theorem own_formZ {w : World} {base n k : Nat} {t : TypeId} {v : Value} {xs : List Value} (h : w.ownsRow base t k v n xs) (hne : v ≠ .slice none 0 0) : ∃ b cap, v = .slice (some ⟨b, 0, none⟩) n cap ∧ base ≤ b := by
  rcases h.2 with ⟨rfl, _⟩ | ⟨g, c, cur, rfl, hb, _⟩
  · exact absurd rfl hne
  · exact ⟨g, c, rfl, hb⟩
theorem clonedZ_of {w w' : World} {X : List Pm} {n : Nat} {v : Value} (hX : X.length = n) (h : w'.ownsRow w.heap.size 158 3 v n (flat encP X)) (hB : Go.RowKit.Below w.heap.size w w') : ClonedZ w X (.returned v) w' := by
  rcases h.2 with ⟨rfl, h0⟩ | ⟨g, c, cur, rfl, hb, _⟩
  · have : X = [] := List.eq_nil_of_length_eq_zero (by omega)
    subst this
    exact ⟨zslNil, rfl, ZSlot.nil _, (fun x hx => by cases hx), hB⟩
  · exact ⟨⟨some ⟨g, 0, none⟩, n, c⟩, rfl, .inr ⟨g, rfl, ZRow.of_own h hX⟩, (fun x hx => by cases hx; exact hb), hB⟩
set_option maxHeartbeats 1000000 in
theorem zclone {w : World} {s : ZSl} {X : List Pm} (h : ZSlot w s X) (hn : s.n ≤ 100000) :
    Calls Try.prog 126 #[s.v] w (ClonedZ w X) := by
  rcases h with ⟨rfl, rfl⟩ | ⟨b, e, h⟩
  · have := AnyE.slices_Clone_nil cloneLaysZ 0 0 w
    refine Calls.mono this fun e' w' ⟨h1, h2⟩ => ?_
    subst h1 h2
    exact ⟨zslNil, rfl, ZSlot.nil _, (fun x hx => by cases hx), Below.refl _ _⟩
  · obtain ⟨ao, n, cap⟩ := s
    simp only at e h hn
    subst e
    show Calls Try.prog 126 #[.slice (some ⟨b, 0, none⟩) n cap] w (ClonedZ w X)
    obtain ⟨i0, hi, hz0, hz1, hz2⟩ := info_parts infoP
    have hlen := h.len
    by_cases h0 : n = 0
    · have hR : X = [] := List.eq_nil_of_length_eq_zero (by omega)
      subst hR
      subst h0
      have q22 : ∀ (w : World) (a : Option Addr) (n c n' c' : Nat), (binOp .eql 144 (.slice a n c) (.slice none n' c')).run Try.prog w = .ok (.bool a.isNone) w := fun w a n c n' c' => Lib.run_eql_slice_nil w _ _ a n c n' c' Try.underlying144
      clear h hlen hn
      go_enter Try.func126, Try.ntmps126
      go_wp2_with (at_builtin; refine wpList_append_own _ rfl _ _ 144 rfl w.heap.size 158 i0 zeroP 3 24 Try.underlying144 hi hz0 hz1 hz2 rfl (by decide) _ _ _ rfl (World.ownsRow_made w #[] 0 (Nat.le_refl _) (Nat.zero_le _) (by simp)) ⟨b, 0, none⟩ 0 cap [] rfl rfl (fun j u hj => by simp at hj) (fun u hu => by cases hu) (Nat.zero_le _) (Nat.zero_le _) (by simp) ?_)
      intro v' w1 hown hgrow hnil
      go_wp2
      go_ret
      exact clonedZ_of (n := 0) rfl (by rw [flat_nil]; simpa using hown) (((Below.refl _ w).alloc (Nat.le_refl _) _).grown hgrow (by simp) (by intro k hk; simp [Value.ownBlock] at hk; omega))
    · have hfl := flat_length encP 3 encP_length X
      have := AnyE.slices_Clone cloneLaysZ i0 zeroP 3 24 hi hz0 hz1 hz2 rfl (by decide) Try.sizeOf158 b 0 n cap (flat encP X) w (by rw [hfl, hlen]) (by unfold maxLen; omega) (by omega)
        (fun j u hu => h.cell j u hu) flatP_one
      refine Calls.mono this fun e w' ⟨v', he, hown, hne, hB⟩ => ?_
      subst he
      exact clonedZ_of hlen hown hB
theorem hz_size : (Try.prog.info? 146).map (·.size) = some 195 := by kernel_rfl
def zHz : Hz := ⟨0, 0, fun _ => ⟨0, 0, 0⟩, []⟩
theorem hz_zero (w : World) : (zeroValue 146).run Try.prog w = .ok (.agg (zHz.cells zslNil.v).toArray) w := by kernel_rfl
theorem cells_oneZ (H : Hz) (s : ZSl) : (H.cells s.v).toArray.all (·.oneCell') = true := by
  apply all_oneCell_toArray
  intro v hv
  unfold Hz.cells at hv
  rcases List.mem_cons.1 hv with rfl | hv
  · rfl
  rcases List.mem_cons.1 hv with rfl | hv
  · rfl
  rcases List.mem_append.1 hv with hv | hv
  · unfold rowK flat at hv
    obtain ⟨c, hc, huc⟩ := List.mem_flatten.1 hv
    obtain ⟨m, _, rfl⟩ := List.mem_map.1 hc
    simp only [encK, List.mem_cons, List.not_mem_nil, or_false] at huc
    rcases huc with rfl | rfl | rfl <;> rfl
  · rw [List.mem_singleton.1 hv]; rfl
theorem step_allocZ {ops : Array Oper} {rest : List Oper} {o : Oper} {a : Act} {w : World} {Q : Exit → Act → World → Prop} (hgd : o.guard = none) (ty : TypeId) (ho : o.op = .alloc ty)
    (Z : Array Value) (hz : (zeroValue ty).run Try.prog w = .ok (.agg Z) w)
    (h : wpList Try.prog ops Q rest (a.put o.dst (.pointer (some ⟨w.heap.size, 0, none⟩))) (w.alloc (.cells Z ty))) : wpList Try.prog ops Q (o :: rest) a w :=
  wpList_plain hgd fun _ hK => by
    unfold Oper.wp execOp
    simp only [ho]
    simp [Instr.alloc, hz, go_sem]
    exact hK _ _ h
theorem belowRowZ {B : Nat} {a w : World} (h : Go.RowKit.Below B a w) (g : Nat) (hg : B ≤ g) (cs : Array Value) : Go.RowKit.Below B a (w.setRow g cs) :=
  ⟨h.os, h.tape, h.output, by rw [size_setRow]; exact h.size, fun k hk => (setRow_other _ _ _ _ (by omega)).trans (h.block k hk)⟩
set_option maxHeartbeats 4000000 in
theorem zcopy {w : World} {g B : Nat} {H : Hz} {s : ZSl} (h : HzAt w g B H s) (hn : H.wait.length ≤ 100000) :
    Calls Try.prog 89 #[.pointer (some ⟨g, 0, none⟩)] w fun e w' => ∃ s', e = .returned (.pointer (some ⟨w.heap.size, 0, none⟩)) ∧ HzAt w' w.heap.size w.heap.size H s' ∧ Below w.heap.size w w' := by
  have hsn := h.few hn
  have HO := Lib.hid h.own
  have HZ := Lib.hid (show (zHz.cells zslNil.v).toArray.size = (H.cells s.v).toArray.size by simp [Hz.cells_length])
  have HS := Lib.hid (show (Try.prog.info? 146).map (·.size) = some (H.cells s.v).toArray.size by rw [hz_size]; simp [Hz.cells_length])
  have H1 := Lib.hid (cells_oneZ H s)
  have hz := Lib.hid hz_zero
  have HOK := Lib.hid h.ok
  generalize (zHz.cells zslNil.v).toArray = Z at *
  have HN := Lib.hid (Own.new w 146 Z)
  have HF : Hid (Own ((w.alloc (.cells Z 146)).setRow w.heap.size (H.cells s.v).toArray) w.heap.size 146 (H.cells s.v).toArray) := Lib.hid (setRow_heap _ _ _ _ _ _ HN.out)
  have HB : Hid (Below w.heap.size w ((w.alloc (.cells Z 146)).setRow w.heap.size (H.cells s.v).toArray)) := Lib.hid (belowRowZ ((Grw.refl w).alloc _).below _ (Nat.le_refl _) _)
  have A1 := h.below HB.out
  have c := A1.cw
  have KC := Lib.hid (zclone A1.row hsn)
  have hlt := A1.lt
  have HC := Lib.hid (fun v => cells_bagZ H s.v v H.wait)
  have c9 := own194 (s := s) (H := H) HF.out
  generalize (H.cells s.v).toArray = C at *
  have HSZ := Lib.hid (show w.heap.size ≤ (((w.alloc (.cells Z 146)).setRow w.heap.size C)).heap.size from HB.out.size)
  obtain ⟨gc, hgc⟩ : ∃ gc, gc = w.heap.size := ⟨_, rfl⟩
  clear h A1 hlt
  go_enter Try.func89, Try.ntmps89
  go_wp2_with (first | (with_reducible refine step_allocZ rfl 146 rfl Z (hz.out _) ?_) | (refine wpList_load_row rfl 146 (.tmp 5) rfl g rfl 146 C (0, 0) _ HO.out Try.underlying146 rfl HS.out ?_) | (refine wpList_store_row rfl 146 (.tmp 3) (.tmp 6) rfl w.heap.size C rfl rfl 146 _ HN.out HS.out HZ.out H1.out ?_) | fail)
  refine KC.out.mono ?_
  rintro e w2 ⟨s', rfl, hsl, hsb, hb⟩
  have hlt : w.heap.size < ((w.alloc (.cells Z 146)).setRow w.heap.size C).heap.size := HF.out.lt
  have F2 := HF.out.below hb hlt
  have cN : w2.cell? ⟨w.heap.size, 194, none⟩ = some s.v := cell_later hb c9
  have fN : w2.frozen? ⟨w.heap.size, 194, none⟩ = false := F2.free 194
  have F3 := F2.set 194 s'.v
  rw [HC.out] at F3
  have hgr := grown_set13 w2 w.heap.size 194 s'.v
  have HR := Lib.hid (show HzAt (w2.setCell ⟨w.heap.size, 194, none⟩ s'.v) w.heap.size w.heap.size H s' ∧ Below w.heap.size w (w2.setCell ⟨w.heap.size, 194, none⟩ s'.v) from ⟨⟨F3, hsl.kept fun x hx => hgr.block _ (hsl.lt x hx) (by intro e; have h1 := hsb x hx; injection e with e2; rw [e2] at h1; exact absurd hlt (Nat.not_lt.2 h1)), Nat.le_refl _, fun x hx => by have := hsb x hx; have := HSZ.out; omega, HOK.out⟩,
    (HB.out.trans (hb.mono HB.out.size)).grown hgr (Nat.le_trans HB.out.size hb.size) (fun k hk => by cases hk; exact Nat.le_refl _)⟩)
  clear KC hsl hsb hb hlt F2 F3 hgr c c9 HF HB HO HN HC HSZ
  obtain ⟨pa, pn, pc⟩ := s'
  unfold ZSl.v at HR
  simp only at HR
  (try unfold ZSl.v)
  go_wp2
  go_ret
  exact ⟨_, rfl, HR.out.1, HR.out.2⟩
end Go.Proofs.Ytfocjcdfpnbkjaa
