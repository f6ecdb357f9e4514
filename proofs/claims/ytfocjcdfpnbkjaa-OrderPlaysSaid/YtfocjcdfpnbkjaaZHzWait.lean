/- wait: a promise waits, or is covered. (Written by gen_hzwait.py.) -/
import Derived.Test.YtfocjcdfpnbkjaaZHzAts
import Derived.Deep.RegionHeld3
set_option linter.unusedVariables false
set_option linter.unusedSimpArgs false
namespace Go.Proofs.Ytfocjcdfpnbkjaa
open Go.RowKit Go.Sort Go.Shelf

/-- Take an operation first; its slot by its number. -/
theorem ztake {P : Program} {md : Region.Mode} {ops : Array Oper} {Q : Exit → Act → World → Prop} {S : World → Prop} {i : Nat} {oi : Oper} {v : Value} {fuel : Nat} {listed : Array Bool} {a : Act} {w : World} (d : Nat) (hi : ops[i]? = some oi) (hd : oi.dst = some d)
    (hs : Region.noSelect ops = true) (hf : Region.free md ops listed i = true) (hr : (Region.ready md ops listed).contains i = true)
    (hQ : ∀ c a w, Q (.panic c) (a.put oi.dst v) w → Q (.panic c) a w) (hy : YieldsIf P ops S oi v a) (hS : S w)
    (h : wpAnyH P md ops Q S fuel (listed.setIfInBounds i true) (a.put (some d) v) w) : wpAnyH P md ops Q S (fuel + 1) listed a w :=
  wpAnyH_take hi hs hf hr hQ hy hS (by rw [hd]; exact h)
theorem yields_pm {ops : Array Oper} {S : World → Prop} {op : Oper} {a : Act} (hw : Region.wanted op (yielded ops a.tmps) = true) (x : Operand) (ho : op.op = .load 158 x)
    (g : Nat) (hx : a.eval x = .pointer (some ⟨g, 0, none⟩)) {m : Pm} (hS : ∀ w, S w → PmB w g m) : YieldsIf Try.prog ops S op (.agg #[.int .i64 m.frm, .int .u64 (m.st : Int), .int .u32 (m.sn : Int)]) a :=
  yieldsIf_load_mid hw 158 x ho g 0 hx (encP m) _ (fun w' hS' => (hS w' hS').rng) Try.underlying158 rfl pm_size
theorem lst_oneZ {w : World} {g : Nat} {m : Pm} (h : PmB w g m) : Lst encP 3 w (some ⟨g, 0, none⟩) 1 [m] := by
  refine ⟨rfl, fun _ => ⟨g, 0, rfl, fun i x hx c v hv => ?_⟩⟩
  have hi : i < 1 := (List.getElem?_eq_some_iff.1 hx).1
  obtain rfl : i = 0 := by omega
  cases hx
  rw [show 0 + 0 * 3 + c = c by omega]
  exact h.own.at_ c v (by rw [List.getElem?_toArray]; exact hv)
theorem own194 {V : World} {g : Nat} {H : Hz} {s : ZSl} (h : Own V g 146 (H.cells s.v).toArray) : V.cell? ⟨g, 194, none⟩ = some s.v := by
  refine h.at_ 194 _ ?_
  rw [List.getElem?_toArray, Hz.cells, List.getElem?_cons_succ, List.getElem?_cons_succ, List.getElem?_append_right (by rw [rowK_length]; decide), rowK_length]
  rfl
theorem ZSl.block {s : ZSl} {k : Nat} (h : s.v.ownBlock = some k) : ∃ x, s.a = some x ∧ x.block = k := by
  obtain ⟨a, n, c⟩ := s
  unfold ZSl.v at h
  cases a with
  | none => simp [Value.ownBlock] at h
  | some a => simp [Value.ownBlock] at h; exact ⟨a, rfl, h⟩
/-- What stands while 'wait' goes on: behind w. -/
structure WtZ (w V : World) (g B bn : Nat) (H : Hz) (s : ZSl) (n : Pm) (s1 : ZSl) (X : List Pm) : Prop where
  at0 : HzAt w g B H s
  own : Own V g 146 (H.cells s.v).toArray
  box : PmB V bn n
  slot : ZSlot V s1 X
  mv : ZMoved w V g s.a s1.a
  new : w.heap.size ≤ bn
  sa : s1.a = s.a
theorem WtZ.far {w V : World} {g B bn : Nat} {H : Hz} {s s1 : ZSl} {n : Pm} {X : List Pm} (h : WtZ w V g B bn H s n s1 X) (j : Nat) (hj : w.heap.size ≤ j) : some j ≠ s1.v.ownBlock := fun e => by
  obtain ⟨x, hx, hk⟩ := ZSl.block e.symm
  rw [h.sa] at hx
  have := h.at0.row.lt x hx
  omega
theorem WtZ.below {w V V' : World} {g B bn : Nat} {H : Hz} {s s1 : ZSl} {n : Pm} {X : List Pm} (h : WtZ w V g B bn H s n s1 X) (hb : Below V.heap.size V V') : WtZ w V' g B bn H s n s1 X :=
  ⟨h.at0, h.own.below hb h.own.lt, h.box.later hb, h.slot.below hb, h.mv.then hb, h.new, h.sa⟩
theorem WtZ.ne {w V : World} {g B bn : Nat} {H : Hz} {s s1 : ZSl} {n : Pm} {X : List Pm} (h : WtZ w V g B bn H s n s1 X) : some g ≠ s1.v.ownBlock := fun e => by
  obtain ⟨x, hx, hk⟩ := ZSl.block e.symm
  obtain ⟨cur, hc⟩ := h.slot.typ x hx
  rw [hk] at hc
  have := h.own.is.symm.trans hc
  injection this with e
  injection e with _ e _
  exact absurd e (by decide)
theorem WtZ.del {w V V' : World} {g B bn : Nat} {H : Hz} {s s1 : ZSl} {n : Pm} {X Y : List Pm} (h : WtZ w V g B bn H s n s X) (hg : V.grownBy V' s.v.ownBlock) (hs : ZSlot V' s1 Y) (ha : s1.a = s.a) : WtZ w V' g B bn H s n s1 Y := by
  refine ⟨h.at0, (hg.block g h.own.lt h.ne).trans h.own, h.box.grown hg (h.far bn h.new), hs, ?_, h.new, ha⟩
  rw [ha]
  exact h.mv.trans (ZMoved.of_grown hg _ fun k e => by
    obtain ⟨x, hx, hk⟩ := ZSl.block e
    exact .inr ⟨x, hx, hk.symm⟩)
theorem WtZ.fin {w V V' : World} {g B bn : Nat} {H : Hz} {s s1 s2 : ZSl} {n : Pm} {X Y : List Pm} (h : WtZ w V g B bn H s n s1 X) (hs : ZSlot V' s2 Y) (hg : V.grownBy V' s1.v.ownBlock) (hloc : ∃ x, s2.a = some x ∧ ((∃ y, s1.a = some y ∧ y.block = x.block) ∨ V.heap.size ≤ x.block)) (hok : ({ H with wait := Y } : Hz).ok) :
    (HzAt (V'.setCell ⟨g, 194, none⟩ s2.v) g B { H with wait := Y } s2 ∧ ZMoved w (V'.setCell ⟨g, 194, none⟩ s2.v) g s.a s2.a) ∧ PmB V' bn n ∧ (V'.cell? ⟨g, 194, none⟩ = some s.v ∧ V'.frozen? ⟨g, 194, none⟩ = false) ∧ PmB (V'.setCell ⟨g, 194, none⟩ s2.v) bn n := by
  have ho : Own V' g 146 (H.cells s.v).toArray := (hg.block g h.own.lt h.ne).trans h.own
  have hb := h.box.grown hg (h.far bn h.new)
  have hm : ZMoved V V' g s1.a s2.a := ⟨hg.os, hg.tape, hg.output, hg.size, fun k hk hkg ha => hg.block k hk (fun e => by
    obtain ⟨x, hx, he⟩ := ZSl.block e.symm
    exact ha x hx he.symm), fun a e => by
    obtain ⟨x, hx, hl⟩ := hloc
    rw [e] at hx
    cases hx
    exact hl⟩
  have hgb : bn ≠ g := by have := h.new; have := h.at0.lt; omega
  refine ⟨?_, hb, ⟨own194 ho, ho.free _⟩, hb.own.set_other g _ _ hgb⟩
  have hh : V'.heap[g]? = w.heap[g]? := ho.trans h.at0.own.symm
  exact h.at0.rowed (h.mv.trans hm) hh Y hs hok
section
variable {w : World} {g B : Nat} {H : Hz} {s : ZSl}
set_option maxHeartbeats 8000000 in
set_option maxRecDepth 100000 in
theorem zwait (h : HzAt w g B H s) (hn : s.n ≤ 100000) (n : Pm) (n0 : -9223372036854775808 ≤ n.frm) (n1 : n.frm ≤ 9223372036854775807) (n2 : n.st < 18446744073709551616) (n3 : n.sn < 4294967296) :
    Calls Try.prog 85 #[.pointer (some ⟨g, 0, none⟩), .agg #[.int .i64 n.frm, .int .u64 (n.st : Int), .int .u32 (n.sn : Int)]] w fun e w' => e = .returned (.tuple #[]) ∧ Gone13 w w' g B s { H with wait := waitL H.wait n } := by
  have BB := ((Grw.refl w).alloc (.cells #[.int .i64 n.frm, .int .u64 (n.st : Int), .int .u32 (n.sn : Int)] 158)).below
  have A1 := h.below BB
  have N1 := PmB.new w n
  have hn2 : s.n ≤ 200000 := by omega
  have KK := zcontains A1.row hn2 122 #[.pointer (some ⟨w.heap.size, 0, none⟩)] (enters_of Try.func122 (by kernel_rfl) rfl) (fun a => coversP a n) (fun W x hb hx => zwaitC x n W w.heap.size (N1.later hb))
  have c := A1.cw
  have hok := ok_wait h.ok (waitL H.wait n) fun x hx => by
    rcases waitL_mem hx with e | rfl
    · exact .inl e
    · exact .inr ⟨n0, n1, n2, n3⟩
  cases ha : H.wait.any (fun a => coversP a n) with
  | true =>
    rw [waitL_yes ha]
    rw [ha] at KK
    have HA := Lib.hid h
    have HB := Lib.hid BB
    clear h BB A1 N1 hok ha
    go_enter Try.func85, Try.ntmps85
    go_wp2_with fail
    refine KK.mono ?_
    rintro e w2 ⟨rfl, hb⟩
    have L := HB.out.trans (hb.mono HB.out.size)
    clear KK c
    go_wp2
    go_end0
    exact ⟨rfl, Gone13.mk' (HA.out.below L) (ZMoved.of_below L _ _)⟩
  | false =>
    rw [ha] at KK
    rw [waitL_no ha] at hok
    have HWL := Lib.hid (waitL_no ha)
    have HOK := Lib.hid hok
    obtain ⟨bn, hbn⟩ : ∃ bn, bn = w.heap.size := ⟨_, rfl⟩
    have HX := Lib.hid (fun (V : World) (hb : Below (w.alloc (.cells #[.int .i64 n.frm, .int .u64 (n.st : Int), .int .u32 (n.sn : Int)] 158)).heap.size (w.alloc (.cells #[.int .i64 n.frm, .int .u64 (n.st : Int), .int .u32 (n.sn : Int)] 158)) V) => show WtZ w V g B bn H s n s H.wait from ⟨h, (A1.below hb).own, by rw [hbn]; exact N1.later hb, (A1.below hb).row, ZMoved.of_below (BB.trans (hb.mono BB.size)) _ _, by rw [hbn]; exact Nat.le_refl _, rfl⟩)
    clear h BB A1 N1 hok ha
    go_enter Try.func85, Try.ntmps85
    go_wp2_with fail
    refine KK.mono ?_
    rintro e w2 ⟨rfl, hb⟩
    have HT0 := Lib.hid ((HX.out w2 hb).below (Grw.refl w2).drew.below)
    clear KK c HX hb
    rw [← hbn]
    generalize w.alloc (.cells #[.int .i64 n.frm, .int .u64 (n.st : Int), .int .u32 (n.sn : Int)] 158) = w1 at *
    replace hbn := Lib.hid hbn
    go_upto_region 2 with fail
    refine wp_region_held_drew (S := fun V => PmB V bn n) (by kernel_rfl) HT0.out.box (fun hHeld => ?_)
    generalize w2.drew = W0 at *
    refine ztake (i := 0) (v := (.pointer (some ⟨g, 0, none⟩))) 11 rfl (by kernel_rfl) (by kernel_rfl) (by kernel_rfl) (by kernel_rfl) (fun _ _ _ h => h) (.inl ⟨by kernel_rfl, fun w' hS => by (go_simp)⟩) hHeld ?_
    (try simp only [Act.put, List.setIfInBounds_toArray, List.set_cons_zero, List.set_cons_succ])
    refine ztake (i := 1) (v := (.pointer (some ⟨g, 0, none⟩))) 12 rfl (by kernel_rfl) (by kernel_rfl) (by kernel_rfl) (by kernel_rfl) (fun _ _ _ h => h) (.inl ⟨by kernel_rfl, fun w' hS => by (go_simp)⟩) hHeld ?_
    (try simp only [Act.put, List.setIfInBounds_toArray, List.set_cons_zero, List.set_cons_succ])
    refine ztake (i := 2) (v := (.pointer (some ⟨g, 0, none⟩))) 13 rfl (by kernel_rfl) (by kernel_rfl) (by kernel_rfl) (by kernel_rfl) (fun _ _ _ h => h) (.inl ⟨by kernel_rfl, fun w' hS => by (go_simp)⟩) hHeld ?_
    (try simp only [Act.put, List.setIfInBounds_toArray, List.set_cons_zero, List.set_cons_succ])
    refine ztake (i := 3) (v := (.pointer (some ⟨g, 194, none⟩))) 14 rfl (by kernel_rfl) (by kernel_rfl) (by kernel_rfl) (by kernel_rfl) (fun _ _ _ h => h) (.inl ⟨by kernel_rfl, fun w' hS => by (go_simp)⟩) hHeld ?_
    (try simp only [Act.put, List.setIfInBounds_toArray, List.set_cons_zero, List.set_cons_succ])
    refine ztake (i := 5) (v := (.agg #[.int .i64 n.frm, .int .u64 (n.st : Int), .int .u32 (n.sn : Int)])) 16 rfl (by kernel_rfl) (by kernel_rfl) (by kernel_rfl) (by kernel_rfl) (fun _ _ _ h => h) (yields_pm (m := n) (by kernel_rfl) (.tmp 3) rfl bn (by kernel_rfl) (fun _ hS => hS)) hHeld ?_
    (try simp only [Act.put, List.setIfInBounds_toArray, List.set_cons_zero, List.set_cons_succ])
    refine ztake (i := 6) (v := (.func (.func 123) #[.agg #[.int .i64 n.frm, .int .u64 (n.st : Int), .int .u32 (n.sn : Int)]] #[])) 17 rfl (by kernel_rfl) (by kernel_rfl) (by kernel_rfl) (by kernel_rfl) (fun _ _ _ h => h) (.inl ⟨by kernel_rfl, fun w' hS => by (go_simp)⟩) hHeld ?_
    (try simp only [Act.put, List.setIfInBounds_toArray, List.set_cons_zero, List.set_cons_succ])
    refine ztake (i := 8) (v := (.agg #[.int .i64 n.frm, .int .u64 (n.st : Int), .int .u32 (n.sn : Int)])) 19 rfl (by kernel_rfl) (by kernel_rfl) (by kernel_rfl) (by kernel_rfl) (fun _ _ _ h => h) (yields_pm (m := n) (by kernel_rfl) (.tmp 3) rfl bn (by kernel_rfl) (fun _ hS => hS)) hHeld ?_
    (try simp only [Act.put, List.setIfInBounds_toArray, List.set_cons_zero, List.set_cons_succ])
    refine wpAnyH_ready (rs := [4, 9]) (by kernel_rfl) (by simp) (AllReadyH.cons rfl (fun K hK => ?_) (AllReadyH.cons rfl (fun K hK => ?_) AllReadyH.nil))
    · have cS := own194 HT0.out.own
      clear hHeld
      rw [if_pos (by kernel_rfl)]
      go_simp
      refine hK.out _ _ HT0.out.box (fun hHeld => ?_)
      clear hK K cS
      (try simp only [Act.put, List.setIfInBounds_toArray, List.set_cons_zero, List.set_cons_succ])
      refine wpAnyH_ready (rs := [7, 9]) (by kernel_rfl) (by simp) (AllReadyH.cons rfl (fun K hK => ?_) (AllReadyH.cons rfl (fun K hK => ?_) AllReadyH.nil))
      · have HDEL := zdelSB HT0.out.slot hn2 n (coversP n) (fun W x _ _ => zcovers n x W)
        clear hHeld
        rw [if_pos (by kernel_rfl)]
        go_simp
        refine HDEL.mono ?_
        rintro e W1 ⟨s1, rfl, hsl, hsa, hsn, hg⟩
        have HT1 := Lib.hid (HT0.out.del hg hsl hsa)
        have HA := Lib.hid (And.intro hsa hsn)
        refine hK.out _ _ HT1.out.box (fun hHeld => ?_)
        clear hK K HT0 HDEL hsl hsa hsn hg
        (try simp only [Act.put, List.setIfInBounds_toArray, List.set_cons_zero, List.set_cons_succ])
        refine wpAnyH_ready (rs := [9]) (by kernel_rfl) (by simp) (AllReadyH.cons rfl (fun K hK => ?_) AllReadyH.nil)
        clear hHeld
        rw [if_pos (by kernel_rfl)]
        go_simp
        have HT2 := Lib.hid (HT1.out.below ((Grw.refl W1).alloc (.cells #[.int .i64 n.frm, .int .u64 (n.st : Int), .int .u32 (n.sn : Int)] 158)).below)
        have HL := Lib.hid (And.intro (PmB.new W1 n) HT1.out.mv.size)
        refine hK.out _ _ HT2.out.box (fun hHeld => ?_)
        clear hK K HT1
        (try simp only [Act.put, List.setIfInBounds_toArray, List.set_cons_zero, List.set_cons_succ])
        generalize W1.heap.size = bs at *
        generalize W1.alloc (.cells #[.int .i64 n.frm, .int .u64 (n.st : Int), .int .u32 (n.sn : Int)] 158) = W2 at *
        refine wpAnyH_ready (rs := [10]) (by kernel_rfl) (by simp) (AllReadyH.cons rfl (fun K hK => ?_) AllReadyH.nil)
        clear hHeld
        rw [if_pos (by kernel_rfl)]
        refine wp_append_z (.tmp 18) (.tmp 20) rfl s1 ((H.wait).filter (fun x => !coversP n x)) rfl HT2.out.slot ⟨bs, 0, none⟩ 1 1 [n] rfl (lst_oneZ HL.out.1) (by decide) (by have := HA.out.2; omega) (fun s2 W' hs' hn' hg' hloc => ?_)
        obtain ⟨hF1, hF2, ⟨c9, f9⟩, hF4⟩ := HT2.out.fin hs' hg' hloc HOK.out
        have HF1 := Lib.hid hF1
        have HF2 := Lib.hid hF2
        refine hK.out _ _ hF2 (fun hHeld => ?_)
        clear hK K hs' hn' hg' hloc HT2 HL HA hF1 hF2
        (try simp only [Act.put, List.setIfInBounds_toArray, List.set_cons_zero, List.set_cons_succ])
        refine ztake (i := 11) (v := (.pointer (some ⟨g, 0, none⟩))) 22 rfl (by kernel_rfl) (by kernel_rfl) (by kernel_rfl) (by kernel_rfl) (fun _ _ _ h => h) (.inl ⟨by kernel_rfl, fun w' hS => by (go_simp)⟩) hHeld ?_
        (try simp only [Act.put, List.setIfInBounds_toArray, List.set_cons_zero, List.set_cons_succ])
        refine ztake (i := 12) (v := (.pointer (some ⟨g, 194, none⟩))) 23 rfl (by kernel_rfl) (by kernel_rfl) (by kernel_rfl) (by kernel_rfl) (fun _ _ _ h => h) (.inl ⟨by kernel_rfl, fun w' hS => by (go_simp)⟩) hHeld ?_
        (try simp only [Act.put, List.setIfInBounds_toArray, List.set_cons_zero, List.set_cons_succ])
        obtain ⟨pa, pn, pc⟩ := s2
        unfold ZSl.v at HF1 hF4
        simp only at HF1 hF4
        (try unfold ZSl.v)
        have HW := Lib.hid hF4
        clear hF4
        refine wpAnyH_ready (rs := [13]) (by kernel_rfl) (by simp) (AllReadyH.cons rfl (fun K hK => ?_) AllReadyH.nil)
        clear hHeld
        rw [if_pos (by kernel_rfl)]
        go_simp
        refine hK.out _ _ HW.out (fun hHeld => ?_)
        clear hK K hHeld c9 f9 HW
        refine wpAnyH_done (by kernel_rfl) ?_ _
        go_wp2
        go_end0
        rw [HWL.out]
        exact ⟨rfl, Gone13.mk' (HF1.out).1 (HF1.out).2⟩
      · clear hHeld
        rw [if_pos (by kernel_rfl)]
        go_simp
        have HT1 := Lib.hid (HT0.out.below ((Grw.refl W0).alloc (.cells #[.int .i64 n.frm, .int .u64 (n.st : Int), .int .u32 (n.sn : Int)] 158)).below)
        have HL := Lib.hid (And.intro (PmB.new W0 n) HT0.out.mv.size)
        refine hK.out _ _ HT1.out.box (fun hHeld => ?_)
        clear hK K HT0
        (try simp only [Act.put, List.setIfInBounds_toArray, List.set_cons_zero, List.set_cons_succ])
        generalize W0.heap.size = bs at *
        generalize W0.alloc (.cells #[.int .i64 n.frm, .int .u64 (n.st : Int), .int .u32 (n.sn : Int)] 158) = W1 at *
        refine wpAnyH_ready (rs := [7]) (by kernel_rfl) (by simp) (AllReadyH.cons rfl (fun K hK => ?_) AllReadyH.nil)
        have HDEL := zdelSB HT1.out.slot hn2 n (coversP n) (fun W x _ _ => zcovers n x W)
        clear hHeld
        rw [if_pos (by kernel_rfl)]
        go_simp
        refine HDEL.mono ?_
        rintro e W2 ⟨s1, rfl, hsl, hsa, hsn, hg⟩
        have HT2 := Lib.hid (HT1.out.del hg hsl hsa)
        have HA := Lib.hid (And.intro hsa hsn)
        have HL := Lib.hid (And.intro (HL.out.1.grown hg (HT1.out.far bs HL.out.2)) HL.out.2)
        refine hK.out _ _ HT2.out.box (fun hHeld => ?_)
        clear hK K HT1 HDEL hsl hsa hsn hg
        (try simp only [Act.put, List.setIfInBounds_toArray, List.set_cons_zero, List.set_cons_succ])
        refine wpAnyH_ready (rs := [10]) (by kernel_rfl) (by simp) (AllReadyH.cons rfl (fun K hK => ?_) AllReadyH.nil)
        clear hHeld
        rw [if_pos (by kernel_rfl)]
        refine wp_append_z (.tmp 18) (.tmp 20) rfl s1 ((H.wait).filter (fun x => !coversP n x)) rfl HT2.out.slot ⟨bs, 0, none⟩ 1 1 [n] rfl (lst_oneZ HL.out.1) (by decide) (by have := HA.out.2; omega) (fun s2 W' hs' hn' hg' hloc => ?_)
        obtain ⟨hF1, hF2, ⟨c9, f9⟩, hF4⟩ := HT2.out.fin hs' hg' hloc HOK.out
        have HF1 := Lib.hid hF1
        have HF2 := Lib.hid hF2
        refine hK.out _ _ hF2 (fun hHeld => ?_)
        clear hK K hs' hn' hg' hloc HT2 HL HA hF1 hF2
        (try simp only [Act.put, List.setIfInBounds_toArray, List.set_cons_zero, List.set_cons_succ])
        refine ztake (i := 11) (v := (.pointer (some ⟨g, 0, none⟩))) 22 rfl (by kernel_rfl) (by kernel_rfl) (by kernel_rfl) (by kernel_rfl) (fun _ _ _ h => h) (.inl ⟨by kernel_rfl, fun w' hS => by (go_simp)⟩) hHeld ?_
        (try simp only [Act.put, List.setIfInBounds_toArray, List.set_cons_zero, List.set_cons_succ])
        refine ztake (i := 12) (v := (.pointer (some ⟨g, 194, none⟩))) 23 rfl (by kernel_rfl) (by kernel_rfl) (by kernel_rfl) (by kernel_rfl) (fun _ _ _ h => h) (.inl ⟨by kernel_rfl, fun w' hS => by (go_simp)⟩) hHeld ?_
        (try simp only [Act.put, List.setIfInBounds_toArray, List.set_cons_zero, List.set_cons_succ])
        obtain ⟨pa, pn, pc⟩ := s2
        unfold ZSl.v at HF1 hF4
        simp only at HF1 hF4
        (try unfold ZSl.v)
        have HW := Lib.hid hF4
        clear hF4
        refine wpAnyH_ready (rs := [13]) (by kernel_rfl) (by simp) (AllReadyH.cons rfl (fun K hK => ?_) AllReadyH.nil)
        clear hHeld
        rw [if_pos (by kernel_rfl)]
        go_simp
        refine hK.out _ _ HW.out (fun hHeld => ?_)
        clear hK K hHeld c9 f9 HW
        refine wpAnyH_done (by kernel_rfl) ?_ _
        go_wp2
        go_end0
        rw [HWL.out]
        exact ⟨rfl, Gone13.mk' (HF1.out).1 (HF1.out).2⟩
    · clear hHeld
      rw [if_pos (by kernel_rfl)]
      go_simp
      have HT1 := Lib.hid (HT0.out.below ((Grw.refl W0).alloc (.cells #[.int .i64 n.frm, .int .u64 (n.st : Int), .int .u32 (n.sn : Int)] 158)).below)
      have HL := Lib.hid (And.intro (PmB.new W0 n) HT0.out.mv.size)
      refine hK.out _ _ HT1.out.box (fun hHeld => ?_)
      clear hK K HT0
      (try simp only [Act.put, List.setIfInBounds_toArray, List.set_cons_zero, List.set_cons_succ])
      generalize W0.heap.size = bs at *
      generalize W0.alloc (.cells #[.int .i64 n.frm, .int .u64 (n.st : Int), .int .u32 (n.sn : Int)] 158) = W1 at *
      refine wpAnyH_ready (rs := [4]) (by kernel_rfl) (by simp) (AllReadyH.cons rfl (fun K hK => ?_) AllReadyH.nil)
      have cS := own194 HT1.out.own
      clear hHeld
      rw [if_pos (by kernel_rfl)]
      go_simp
      refine hK.out _ _ HT1.out.box (fun hHeld => ?_)
      clear hK K cS
      (try simp only [Act.put, List.setIfInBounds_toArray, List.set_cons_zero, List.set_cons_succ])
      refine wpAnyH_ready (rs := [7]) (by kernel_rfl) (by simp) (AllReadyH.cons rfl (fun K hK => ?_) AllReadyH.nil)
      have HDEL := zdelSB HT1.out.slot hn2 n (coversP n) (fun W x _ _ => zcovers n x W)
      clear hHeld
      rw [if_pos (by kernel_rfl)]
      go_simp
      refine HDEL.mono ?_
      rintro e W2 ⟨s1, rfl, hsl, hsa, hsn, hg⟩
      have HT2 := Lib.hid (HT1.out.del hg hsl hsa)
      have HA := Lib.hid (And.intro hsa hsn)
      have HL := Lib.hid (And.intro (HL.out.1.grown hg (HT1.out.far bs HL.out.2)) HL.out.2)
      refine hK.out _ _ HT2.out.box (fun hHeld => ?_)
      clear hK K HT1 HDEL hsl hsa hsn hg
      (try simp only [Act.put, List.setIfInBounds_toArray, List.set_cons_zero, List.set_cons_succ])
      refine wpAnyH_ready (rs := [10]) (by kernel_rfl) (by simp) (AllReadyH.cons rfl (fun K hK => ?_) AllReadyH.nil)
      clear hHeld
      rw [if_pos (by kernel_rfl)]
      refine wp_append_z (.tmp 18) (.tmp 20) rfl s1 ((H.wait).filter (fun x => !coversP n x)) rfl HT2.out.slot ⟨bs, 0, none⟩ 1 1 [n] rfl (lst_oneZ HL.out.1) (by decide) (by have := HA.out.2; omega) (fun s2 W' hs' hn' hg' hloc => ?_)
      obtain ⟨hF1, hF2, ⟨c9, f9⟩, hF4⟩ := HT2.out.fin hs' hg' hloc HOK.out
      have HF1 := Lib.hid hF1
      have HF2 := Lib.hid hF2
      refine hK.out _ _ hF2 (fun hHeld => ?_)
      clear hK K hs' hn' hg' hloc HT2 HL HA hF1 hF2
      (try simp only [Act.put, List.setIfInBounds_toArray, List.set_cons_zero, List.set_cons_succ])
      refine ztake (i := 11) (v := (.pointer (some ⟨g, 0, none⟩))) 22 rfl (by kernel_rfl) (by kernel_rfl) (by kernel_rfl) (by kernel_rfl) (fun _ _ _ h => h) (.inl ⟨by kernel_rfl, fun w' hS => by (go_simp)⟩) hHeld ?_
      (try simp only [Act.put, List.setIfInBounds_toArray, List.set_cons_zero, List.set_cons_succ])
      refine ztake (i := 12) (v := (.pointer (some ⟨g, 194, none⟩))) 23 rfl (by kernel_rfl) (by kernel_rfl) (by kernel_rfl) (by kernel_rfl) (fun _ _ _ h => h) (.inl ⟨by kernel_rfl, fun w' hS => by (go_simp)⟩) hHeld ?_
      (try simp only [Act.put, List.setIfInBounds_toArray, List.set_cons_zero, List.set_cons_succ])
      obtain ⟨pa, pn, pc⟩ := s2
      unfold ZSl.v at HF1 hF4
      simp only at HF1 hF4
      (try unfold ZSl.v)
      have HW := Lib.hid hF4
      clear hF4
      refine wpAnyH_ready (rs := [13]) (by kernel_rfl) (by simp) (AllReadyH.cons rfl (fun K hK => ?_) AllReadyH.nil)
      clear hHeld
      rw [if_pos (by kernel_rfl)]
      go_simp
      refine hK.out _ _ HW.out (fun hHeld => ?_)
      clear hK K hHeld c9 f9 HW
      refine wpAnyH_done (by kernel_rfl) ?_ _
      go_wp2
      go_end0
      rw [HWL.out]
      exact ⟨rfl, Gone13.mk' (HF1.out).1 (HF1.out).2⟩
end
end Go.Proofs.Ytfocjcdfpnbkjaa
