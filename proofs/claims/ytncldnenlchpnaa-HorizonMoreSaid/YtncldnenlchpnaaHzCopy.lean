/- Came, Promise, Copy. -/
import Derived.Test.YtncldnenlchpnaaHzCount
import Derived.Shelf.SlLaysE0
import Derived.Shelf.SlicesE.Clone
set_option linter.unusedVariables false
set_option linter.unusedSimpArgs false
namespace Go.Proofs.Ytncldnenlchpnaa
open Go.RowKit Go.Sort Go.Shelf

theorem Gone13.after {w w1 w' : World} {g B : Nat} {s s1 : ZSl} {H' : Hz} (h : Gone13 w1 w' g B s1 H') (m : ZMoved w w1 g s.a s1.a) : Gone13 w w' g B s H' := by
  obtain ⟨s', h1, h2⟩ := h.ex
  exact ⟨⟨s', h1, m.trans h2⟩⟩
section
variable {w : World} {g B : Nat} {H : Hz} {s : ZSl}
theorem HzAt.few (h : HzAt w g B H s) {N : Nat} (hn : H.wait.length ≤ N) : s.n ≤ N := by rw [← h.row.len]; exact hn
set_option maxHeartbeats 4000000 in
theorem zcame (h : HzAt w g B H s) (hn : H.wait.length ≤ 100000) (p : Int) (p0 : -9223372036854775808 ≤ p) (p1 : p ≤ 9223372036854775807) (seq st : Nat) (hq : seq < 4294967296) (hs : st < 18446744073709551616) :
    Calls Try.prog 16 #[.pointer (some ⟨g, 0, none⟩), .int .i64 p, .int .u32 (seq : Int), .int .u64 (st : Int)] w fun e w' => e = .returned (.tuple #[]) ∧ Gone13 w w' g B s (cameZ H p seq st) := by
  have c0 := h.c0
  have M := has_any H.oth p w h.ok.o p0 p1
  cases hm : mem H.oth p with
  | false =>
    rw [cameZ_no hm]
    rw [hm] at M
    have HH := Lib.hid h
    clear h hm
    go_enter Try.func16, Try.ntmps16
    go_wp2_with (go_at_call 18; refine M.mono ?_; rintro e w' ⟨rfl, rfl⟩)
    (try simp only [Exit.inBlock, Exit.then]); refine bodyPost_ret (results_none rfl _ _ _) rfl ?_
    exact ⟨rfl, Gone13.mk' HH.out (ZMoved.refl _ _ _)⟩
  | true =>
    rw [cameZ_yes hm]
    rw [hm] at M
    obtain ⟨k, rfl, hk, -⟩ := mem_nat13 hm
    rw [Int.toNat_natCast]
    have hk' : (k : Int) < 64 := by omega
    have KS := zsee h st hs
    have hr := h.ok.h k
    have hok := ok_see h.ok hs
    obtain ⟨z, hz⟩ : ∃ z, z = max (H.mks k).hd st := ⟨_, rfl⟩
    have hzi : max ((H.mks k).hd : Int) (st : Int) = (z : Int) := by omega
    have hzb : z < 18446744073709551616 := by omega
    rw [← hz]
    have HM := Lib.hid (show markZ (markZ (seeZ H st) k ⟨(H.mks k).hd, (H.mks k).rc, seq⟩) k ⟨z, (H.mks k).rc, seq⟩ = markZ (seeZ H st) k ⟨z, (H.mks k).rc, seq⟩ from soFar_twice _ _ _ _)
    have HMK := Lib.hid (show (seeZ H st).mks k = H.mks k from rfl)
    have HR := Lib.hid (h.ok.r k)
    have HHd := Lib.hid hr
    have HOK := Lib.hid hok
    have HN := Lib.hid (show (markZ (seeZ H st) k ⟨z, (H.mks k).rc, seq⟩).wait.length ≤ 100000 from hn)
    clear h hm hz hr hok hn
    go_enter Try.func16, Try.ntmps16
    go_wp2_with (first | (go_at_call 18; refine M.mono ?_; rintro e w' ⟨rfl, rfl⟩) | fail)
    refine KS.mono ?_
    rintro e w1 ⟨rfl, A1, V1⟩
    have k0 := A1.k0 k hk
    rw [HMK.out] at k0
    have k2 := A1.k2 k hk
    have f0 := A1.free (2 + k * 3)
    have f2 := A1.free (2 + k * 3 + 2)
    obtain ⟨A2, V2⟩ := A1.mark k hk 2 (by decide) (.int .u32 (seq : Int)) ⟨(H.mks k).hd, (H.mks k).rc, seq⟩ rfl (ok_mark HOK.out k HHd.out HR.out hq)
    obtain ⟨A3, V3⟩ := A2.mark k hk 0 (by decide) (.int .u64 (z : Int)) ⟨z, (H.mks k).rc, seq⟩ (by rw [soFar_at]; rfl) (by rw [HM.out]; exact ok_mark HOK.out k hzb HR.out hq)
    rw [HM.out] at A3
    have KC := Lib.hid (zcount A3 (A3.few HN.out) k hk)
    have HV := Lib.hid ((V1.trans V2).trans V3)
    generalize (H.mks k).hd = hd at *
    clear M KS A1 V1 A2 V2 A3 V3 c0 HM HMK HR HHd HOK HN
    go_wp2_with fail
    refine KC.out.mono ?_
    rintro e w4 ⟨rfl, G⟩
    have HG := Lib.hid (G.after (s := s) HV.out)
    clear G KC HV k0 k2 f0 f2
    go_wp2
    go_end0
    exact ⟨rfl, HG.out⟩
set_option maxHeartbeats 4000000 in
theorem zprom (h : HzAt w g B H s) (hn : H.wait.length ≤ 99999) (p : Int) (p0 : -9223372036854775808 ≤ p) (p1 : p ≤ 9223372036854775807) (st sn : Nat) (hs : st < 18446744073709551616) (hq : sn < 4294967296) :
    Calls Try.prog 15 #[.pointer (some ⟨g, 0, none⟩), .int .i64 p, .int .u64 (st : Int), .int .u32 (sn : Int)] w fun e w' => e = .returned (.tuple #[]) ∧ Gone13 w w' g B s (promZ H p st sn) := by
  have c0 := h.c0
  have M := has_any H.oth p w h.ok.o p0 p1
  cases hm : mem H.oth p with
  | false =>
    rw [promZ_no hm]
    rw [hm] at M
    have HH := Lib.hid h
    clear h hm
    go_enter Try.func15, Try.ntmps15
    go_wp2_with (go_at_call 18; refine M.mono ?_; rintro e w' ⟨rfl, rfl⟩)
    (try simp only [Exit.inBlock, Exit.then]); refine bodyPost_ret (results_none rfl _ _ _) rfl ?_
    exact ⟨rfl, Gone13.mk' HH.out (ZMoved.refl _ _ _)⟩
  | true =>
    rw [promZ_yes hm]
    rw [hm] at M
    obtain ⟨k, rfl, hk, -⟩ := mem_nat13 hm
    rw [Int.toNat_natCast]
    have KS := zsee h st hs
    have HN := Lib.hid hn
    clear h hm hn
    go_enter Try.func15, Try.ntmps15
    go_wp2_with (first | (go_at_call 18; refine M.mono ?_; rintro e w' ⟨rfl, rfl⟩) | fail)
    refine KS.mono ?_
    rintro e w1 ⟨rfl, A1, V1⟩
    have KW := Lib.hid (zwait A1 (A1.few (N := 100000) (by show H.wait.length ≤ 100000; have := HN.out; omega)) ⟨(k : Int), st, sn⟩ p0 p1 hs hq)
    have HV := Lib.hid V1
    clear M KS A1 V1 c0
    go_wp2_with fail
    refine KW.out.mono ?_
    rintro e w2 ⟨rfl, G⟩
    obtain ⟨s2, A2, V2⟩ := G.ex
    have KC := Lib.hid (zcount A2 (A2.few (N := 100000) (by show (waitL H.wait ⟨(k : Int), st, sn⟩).length ≤ 100000; have := HN.out; have := waitL_length H.wait ⟨(k : Int), st, sn⟩; omega)) k hk)
    have HV2 := Lib.hid (HV.out.trans V2)
    clear G A2 V2 HV KW
    go_wp2_with fail
    refine KC.out.mono ?_
    rintro e w3 ⟨rfl, G⟩
    have HG := Lib.hid (G.after (s := s) HV2.out)
    clear G KC HV2
    go_wp2
    go_end0
    exact ⟨rfl, HG.out⟩
end
def cloneRenZ : Go.Shelf.Ren := ⟨fun | 41 => 29 | n => n, fun | 4 => 4 | 22 => 47 | 23 => 59 | n => n, fun n => n⟩
theorem cloneLaysZ : SlLaysE0.n41 Try.prog cloneRenZ := {
  mixed := by kernel_rfl
  f41 := ⟨Try.f29.name, by decide +kernel, by kernel_rfl⟩
  t4 := Try.underlying4
  a4 := Try.isAgg4
  z4 := Try.sizeOf4
  v4 := Try.zeroValue4
  t22 := Try.underlying47
  a22 := Try.isAgg47
  z22 := Try.sizeOf47
  v22 := Try.zeroValue47 }
/-- What Clone answers: a row like it, in new memory. -/
def ClonedZ (w : World) (X : List Pm) (e : Ending) (w' : World) : Prop := ∃ s' : ZSl, e = .returned s'.v ∧ ZSlot w' s' X ∧ (∀ x, s'.a = some x → w.heap.size ≤ x.block) ∧ Go.RowKit.Below w.heap.size w w'
theorem own_formZ {w : World} {base n k : Nat} {t : TypeId} {v : Value} {xs : List Value} (h : w.ownsRow base t k v n xs) (hne : v ≠ .slice none 0 0) : ∃ b cap, v = .slice (some ⟨b, 0, none⟩) n cap ∧ base ≤ b := by
  rcases h.2 with ⟨rfl, _⟩ | ⟨g, c, cur, rfl, hb, _⟩
  · exact absurd rfl hne
  · exact ⟨g, c, rfl, hb⟩
theorem clonedZ_of {w w' : World} {X : List Pm} {n : Nat} {v : Value} (hX : X.length = n) (h : w'.ownsRow w.heap.size 59 3 v n (flat encP X)) (hB : Go.RowKit.Below w.heap.size w w') : ClonedZ w X (.returned v) w' := by
  rcases h.2 with ⟨rfl, h0⟩ | ⟨g, c, cur, rfl, hb, _⟩
  · have : X = [] := List.eq_nil_of_length_eq_zero (by omega)
    subst this
    exact ⟨zslNil, rfl, ZSlot.nil _, (fun x hx => by cases hx), hB⟩
  · exact ⟨⟨some ⟨g, 0, none⟩, n, c⟩, rfl, .inr ⟨g, rfl, ZRow.of_own h hX⟩, (fun x hx => by cases hx; exact hb), hB⟩
set_option maxHeartbeats 1000000 in
theorem zclone {w : World} {s : ZSl} {X : List Pm} (h : ZSlot w s X) (hn : s.n ≤ 100000) :
    Calls Try.prog 29 #[s.v] w (ClonedZ w X) := by
  rcases h with ⟨rfl, rfl⟩ | ⟨b, e, h⟩
  · have := AnyE.slices_Clone_nil cloneLaysZ 0 0 w
    refine Calls.mono this fun e' w' ⟨h1, h2⟩ => ?_
    subst h1 h2
    exact ⟨zslNil, rfl, ZSlot.nil _, (fun x hx => by cases hx), Below.refl _ _⟩
  · obtain ⟨ao, n, cap⟩ := s
    simp only at e h hn
    subst e
    show Calls Try.prog 29 #[.slice (some ⟨b, 0, none⟩) n cap] w (ClonedZ w X)
    obtain ⟨i0, hi, hz0, hz1, hz2⟩ := info_parts infoP
    have hlen := h.len
    by_cases h0 : n = 0
    · have hR : X = [] := List.eq_nil_of_length_eq_zero (by omega)
      subst hR
      subst h0
      have q22 : ∀ (w : World) (a : Option Addr) (n c n' c' : Nat), (binOp .eql 47 (.slice a n c) (.slice none n' c')).run Try.prog w = .ok (.bool a.isNone) w := fun w a n c n' c' => Lib.run_eql_slice_nil w _ _ a n c n' c' Try.underlying47
      clear h hlen hn
      go_enter Try.func29, Try.ntmps29
      go_wp2_with (at_builtin; refine wpList_append_own _ rfl _ _ 47 rfl w.heap.size 59 i0 zeroP 3 24 Try.underlying47 hi hz0 hz1 hz2 rfl (by decide) _ _ _ rfl (World.ownsRow_made w #[] 0 (Nat.le_refl _) (Nat.zero_le _) (by simp)) ⟨b, 0, none⟩ 0 cap [] rfl rfl (fun j u hj => by simp at hj) (fun u hu => by cases hu) (Nat.zero_le _) (Nat.zero_le _) (by simp) ?_)
      intro v' w1 hown hgrow hnil
      go_wp2
      go_ret
      exact clonedZ_of (n := 0) rfl (by rw [flat_nil]; simpa using hown) (((Below.refl _ w).alloc (Nat.le_refl _) _).grown hgrow (by simp) (by intro k hk; simp [Value.ownBlock] at hk; omega))
    · have hfl := flat_length encP 3 encP_length X
      have := AnyE.slices_Clone cloneLaysZ i0 zeroP 3 24 hi hz0 hz1 hz2 rfl (by decide) Try.sizeOf59 b 0 n cap (flat encP X) w (by rw [hfl, hlen]) (by unfold maxLen; omega) (by omega)
        (fun j u hu => h.cell j u hu) flatP_one
      refine Calls.mono this fun e w' ⟨v', he, hown, hne, hB⟩ => ?_
      subst he
      exact clonedZ_of hlen hown hB
theorem hz_size : (Try.prog.info? 49).map (·.size) = some 195 := by kernel_rfl
def zHz : Hz := ⟨0, 0, fun _ => ⟨0, 0, 0⟩, []⟩
theorem hz_zero (w : World) : (zeroValue 49).run Try.prog w = .ok (.agg (zHz.cells zslNil.v).toArray) w := by kernel_rfl
theorem cells_oneZ (H : Hz) (s : ZSl) : (H.cells s.v).toArray.all (·.oneCell') = true := by
  apply all_oneCell_toArray
  intro v hv
  unfold Hz.cells at hv
  rcases List.mem_cons.1 hv with rfl | hv
  · rfl
  rcases List.mem_cons.1 hv with rfl | hv
  · rfl
  rcases List.mem_append.1 hv with hv | hv
  · unfold rowK flat at hv
    obtain ⟨c, hc, huc⟩ := List.mem_flatten.1 hv
    obtain ⟨m, _, rfl⟩ := List.mem_map.1 hc
    simp only [encK, List.mem_cons, List.not_mem_nil, or_false] at huc
    rcases huc with rfl | rfl | rfl <;> rfl
  · rw [List.mem_singleton.1 hv]; rfl
theorem step_allocZ {ops : Array Oper} {rest : List Oper} {o : Oper} {a : Act} {w : World} {Q : Exit → Act → World → Prop} (hgd : o.guard = none) (ty : TypeId) (ho : o.op = .alloc ty)
    (Z : Array Value) (hz : (zeroValue ty).run Try.prog w = .ok (.agg Z) w)
    (h : wpList Try.prog ops Q rest (a.put o.dst (.pointer (some ⟨w.heap.size, 0, none⟩))) (w.alloc (.cells Z ty))) : wpList Try.prog ops Q (o :: rest) a w :=
  wpList_plain hgd fun _ hK => by
    unfold Oper.wp execOp
    simp only [ho]
    simp [Instr.alloc, hz, go_sem]
    exact hK _ _ h
theorem belowRowZ {B : Nat} {a w : World} (h : Go.RowKit.Below B a w) (g : Nat) (hg : B ≤ g) (cs : Array Value) : Go.RowKit.Below B a (w.setRow g cs) :=
  ⟨h.os, h.tape, h.output, by rw [size_setRow]; exact h.size, fun k hk => (setRow_other _ _ _ _ (by omega)).trans (h.block k hk)⟩
set_option maxHeartbeats 4000000 in
theorem zcopy {w : World} {g B : Nat} {H : Hz} {s : ZSl} (h : HzAt w g B H s) (hn : H.wait.length ≤ 100000) :
    Calls Try.prog 17 #[.pointer (some ⟨g, 0, none⟩)] w fun e w' => ∃ s', e = .returned (.pointer (some ⟨w.heap.size, 0, none⟩)) ∧ HzAt w' w.heap.size w.heap.size H s' ∧ Below w.heap.size w w' := by
  have hsn := h.few hn
  have HO := Lib.hid h.own
  have HZ := Lib.hid (show (zHz.cells zslNil.v).toArray.size = (H.cells s.v).toArray.size by simp [Hz.cells_length])
  have HS := Lib.hid (show (Try.prog.info? 49).map (·.size) = some (H.cells s.v).toArray.size by rw [hz_size]; simp [Hz.cells_length])
  have H1 := Lib.hid (cells_oneZ H s)
  have hz := Lib.hid hz_zero
  have HOK := Lib.hid h.ok
  generalize (zHz.cells zslNil.v).toArray = Z at *
  have HN := Lib.hid (Own.new w 49 Z)
  have HF : Hid (Own ((w.alloc (.cells Z 49)).setRow w.heap.size (H.cells s.v).toArray) w.heap.size 49 (H.cells s.v).toArray) := Lib.hid (setRow_heap _ _ _ _ _ _ HN.out)
  have HB : Hid (Below w.heap.size w ((w.alloc (.cells Z 49)).setRow w.heap.size (H.cells s.v).toArray)) := Lib.hid (belowRowZ ((Grw.refl w).alloc _).below _ (Nat.le_refl _) _)
  have A1 := h.below HB.out
  have c := A1.cw
  have KC := Lib.hid (zclone A1.row hsn)
  have hlt := A1.lt
  have HC := Lib.hid (fun v => cells_bagZ H s.v v H.wait)
  have c9 := own194 (s := s) (H := H) HF.out
  generalize (H.cells s.v).toArray = C at *
  have HSZ := Lib.hid (show w.heap.size ≤ (((w.alloc (.cells Z 49)).setRow w.heap.size C)).heap.size from HB.out.size)
  obtain ⟨gc, hgc⟩ : ∃ gc, gc = w.heap.size := ⟨_, rfl⟩
  clear h A1 hlt
  go_enter Try.func17, Try.ntmps17
  go_wp2_with (first | (with_reducible refine step_allocZ rfl 49 rfl Z (hz.out _) ?_) | (refine wpList_load_row rfl 49 (.tmp 5) rfl g rfl 49 C (0, 0) _ HO.out Try.underlying49 rfl HS.out ?_) | (refine wpList_store_row rfl 49 (.tmp 3) (.tmp 6) rfl w.heap.size C rfl rfl 49 _ HN.out HS.out HZ.out H1.out ?_) | fail)
  refine KC.out.mono ?_
  rintro e w2 ⟨s', rfl, hsl, hsb, hb⟩
  have hlt : w.heap.size < ((w.alloc (.cells Z 49)).setRow w.heap.size C).heap.size := HF.out.lt
  have F2 := HF.out.below hb hlt
  have cN : w2.cell? ⟨w.heap.size, 194, none⟩ = some s.v := cell_later hb c9
  have fN : w2.frozen? ⟨w.heap.size, 194, none⟩ = false := F2.free 194
  have F3 := F2.set 194 s'.v
  rw [HC.out] at F3
  have hgr := grown_set13 w2 w.heap.size 194 s'.v
  have HR := Lib.hid (show HzAt (w2.setCell ⟨w.heap.size, 194, none⟩ s'.v) w.heap.size w.heap.size H s' ∧ Below w.heap.size w (w2.setCell ⟨w.heap.size, 194, none⟩ s'.v) from ⟨⟨F3, hsl.kept fun x hx => hgr.block _ (hsl.lt x hx) (by intro e; have h1 := hsb x hx; injection e with e2; rw [e2] at h1; exact absurd hlt (Nat.not_lt.2 h1)), Nat.le_refl _, fun x hx => by have := hsb x hx; have := HSZ.out; omega, HOK.out⟩,
    (HB.out.trans (hb.mono HB.out.size)).grown hgr (Nat.le_trans HB.out.size hb.size) (fun k hk => by cases hk; exact Nat.le_refl _)⟩)
  clear KC hsl hsb hb hlt F2 F3 hgr c c9 HF HB HO HN HC HSZ
  obtain ⟨pa, pn, pc⟩ := s'
  unfold ZSl.v at HR
  simp only at HR
  (try unfold ZSl.v)
  go_wp2
  go_ret
  exact ⟨_, rfl, HR.out.1, HR.out.2⟩
end Go.Proofs.Ytncldnenlchpnaa
