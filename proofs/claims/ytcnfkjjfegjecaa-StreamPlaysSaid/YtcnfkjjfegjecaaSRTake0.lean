/- The document's Take: a message that is held now. (Written by wip/gen_srtake0.py.) -/
import Derived.Test.YtcnfkjjfegjecaaSRTake
import Derived.Deep.DeepCutAuto
import Derived.Deep.CutRange
set_option linter.unusedVariables false
set_option linter.unusedSimpArgs false
namespace Go.Proofs.Ytcnfkjjfegjecaa
open Go.RowKit Go.Sort Go.Maps

theorem out_made (w : World) (F : Nat → Prop) : OutAt (w.alloc (.cells #[] 37)) F w.heap.size (some ⟨w.heap.size, 0, none⟩) 0 [] :=
  ⟨[], World.ownsRow_made w #[] 0 (Nat.le_refl _) (Nat.zero_le _) (by simp), rfl, fun i x m hx => by simp at hx⟩
theorem yields_ms_lx {ops : Array Oper} {S : World → Prop} {op : Oper} {a : Act} (X : Addr) {ad0 : Addr} {c0 j0 : Nat} (hX : X = if c0 = j0 then ad0 else ad0.add (j0 * 6)) (hw : Region.wanted op (yielded ops a.tmps) = true) (x y : Operand) (ho : op.op = .slice 22 x (some y) none none)
    (ad : Addr) (n c j : Nat) (hx : a.eval x = .slice (some ad) n c) (hy : a.eval y = .int .i64 (j : Int)) (hj : j ≤ n) (e1 : ad0 = ad := by rfl) (e2 : c0 = c := by rfl) (e3 : j0 = j := by rfl) : YieldsIf Try.prog ops S op (.slice (some X) (n - j) (c - j)) a := by
  subst e1 e2 e3
  rw [hX]
  exact yields_ms_l hw x y ho _ n _ _ hx hy hj
/-- A slice beside a row that turns. -/
theorem LikeAt.grown_off {w w' : World} {F : Nat → Prop} {xb : Nat} {l : List Mg} {o : Option Nat} (h : LikeAt w F (some ⟨xb, 0, none⟩) l) (hg : w.grownBy w' o) (ho : ∀ k, o = some k → xb ≠ k ∧ F k) : LikeAt w' F (some ⟨xb, 0, none⟩) l := by
  obtain ⟨L, hL, hl, hE⟩ := h
  refine ⟨L, ⟨hL.size, fun h0 => ?_⟩, hl, fun i x m hx hm => ⟨(hE i x m hx hm).1, (hE i x m hx hm).2.kept fun k hk hn => hg.block k hk (fun e => hn (ho k e.symm).2)⟩⟩
  obtain ⟨b, o', e, R⟩ := hL.src h0
  injection e with e
  injection e with e1 e2
  subst e1 e2
  refine ⟨xb, 0, rfl, fun i x hx c v hv => ?_⟩
  have h1 := R i x hx c v hv
  exact (World.cell?_of_block (w := w) (hg.block xb (World.block_lt_of_cell? _ _ h1) (fun e => (ho xb e.symm).1 rfl))).trans h1
set_option maxHeartbeats 16000000 in
set_option maxRecDepth 100000 in
theorem rtake_0 {w : World} {B : Nat} {S : Sm Mg} {ho : Option Addr} {hc : Nat} (sz : Int) (c q : Nat) (hsz : sz = (S.size : Int)) (hcs : c = S.count) (hl : LikeAt w (newB B) ho S.held) (hc0 : ho = none → hc = 0) (hcl : S.held.length ≤ hc) (hI : SmInv sqG S) (f s v : Int) (a : Option Addr) (dl dc : Nat) (deps : List Int) (text : ByteArray) (hq4 : q < 4294967296) (hd : DpOff w (newB B) ⟨f, (q : Int), s, v, a, dl, dc, deps, text⟩) (hft : Fits S.held) (hB : B ≤ w.heap.size) (hcc : S.count ≤ 1000000) (hq0 : q ≠ 0) (hqc : ¬ q ≤ c) (hi : idxI S.held q = -1) (hf : ¬ (c : Int) + sz < (q : Int)) (hs1 : 0 ≤ sz) (hs2 : sz ≤ 64) (hc9 : c ≤ 1000000) (S' : Sm Mg) (out : List Mg) (hS' : takeS sqG S ⟨f, (q : Int), s, v, a, dl, dc, deps, text⟩ = S') (hout : outS sqG S ⟨f, (q : Int), s, v, a, dl, dc, deps, text⟩ = out) (hc0' : codeS sqG S ⟨f, (q : Int), s, v, a, dl, dc, deps, text⟩ = 0) : Calls Try.prog 12 #[.agg #[.int .i64 sz, .int .u32 (c : Int), .slice ho S.held.length hc], .agg #[.int .i64 f, .int .u32 (q : Int), .int .u64 s, .int .i64 v, .slice a dl dc, .string text]] w (RTook w B S' out 0) := by
  have HFIN := Lib.hid (show takeS sqG S ⟨f, (q : Int), s, v, a, dl, dc, deps, text⟩ = S' ∧ outS sqG S ⟨f, (q : Int), s, v, a, dl, dc, deps, text⟩ = out ∧ codeS sqG S ⟨f, (q : Int), s, v, a, dl, dc, deps, text⟩ = 0 from ⟨hS', hout, hc0'⟩)
  clear hS' hout hc0'
  have hqz : ((q : Int) == 0) = false := by simp; omega
  have hle : ¬ (q : Int) ≤ (c : Int) := by omega
  have HII := Lib.hid hi
  clear hi
  have E3 : RsB (((w.alloc (.cells #[.int .i64 sz, .int .u32 (c : Int), .slice ho S.held.length hc] 29)).alloc (.cells #[.int .i64 f, .int .u32 (q : Int), .int .u64 s, .int .i64 v, .slice a dl dc, .string text] 37)).alloc (.cells #[.int .i64 0, .int .u32 0, .slice none 0 0] 29)) w.heap.size sz c (.slice ho S.held.length hc) := (RsB.new w sz c _).below (((Grw.refl _).alloc _).alloc _).below
  have M3 : MgB (((w.alloc (.cells #[.int .i64 sz, .int .u32 (c : Int), .slice ho S.held.length hc] 29)).alloc (.cells #[.int .i64 f, .int .u32 (q : Int), .int .u64 s, .int .i64 v, .slice a dl dc, .string text] 37)).alloc (.cells #[.int .i64 0, .int .u32 0, .slice none 0 0] 29)) (w.heap.size + 1) ⟨f, (q : Int), s, v, a, dl, dc, deps, text⟩ := by
    have := (MgB.new (w.alloc (.cells #[.int .i64 sz, .int .u32 (c : Int), .slice ho S.held.length hc] 29)) ⟨f, (q : Int), s, v, a, dl, dc, deps, text⟩).later ((Grw.refl _).alloc (.cells #[.int .i64 0, .int .u32 0, .slice none 0 0] 29)).below
    rw [show (w.alloc (.cells #[.int .i64 sz, .int .u32 (c : Int), .slice ho S.held.length hc] 29)).heap.size = w.heap.size + 1 by simp] at this
    exact this
  have R3 : RsB (((w.alloc (.cells #[.int .i64 sz, .int .u32 (c : Int), .slice ho S.held.length hc] 29)).alloc (.cells #[.int .i64 f, .int .u32 (q : Int), .int .u64 s, .int .i64 v, .slice a dl dc, .string text] 37)).alloc (.cells #[.int .i64 0, .int .u32 0, .slice none 0 0] 29)) (w.heap.size + 2) 0 0 (.slice none 0 0) := by
    have := RsB.new ((w.alloc (.cells #[.int .i64 sz, .int .u32 (c : Int), .slice ho S.held.length hc] 29)).alloc (.cells #[.int .i64 f, .int .u32 (q : Int), .int .u64 s, .int .i64 v, .slice a dl dc, .string text] 37)) 0 0 (.slice none 0 0)
    rw [show ((w.alloc (.cells #[.int .i64 sz, .int .u32 (c : Int), .slice ho S.held.length hc] 29)).alloc (.cells #[.int .i64 f, .int .u32 (q : Int), .int .u64 s, .int .i64 v, .slice a dl dc, .string text] 37)).heap.size = w.heap.size + 2 by simp] at this
    exact this
  have L3 : Below w.heap.size w (((w.alloc (.cells #[.int .i64 sz, .int .u32 (c : Int), .slice ho S.held.length hc] 29)).alloc (.cells #[.int .i64 f, .int .u32 (q : Int), .int .u64 s, .int .i64 v, .slice a dl dc, .string text] 37)).alloc (.cells #[.int .i64 0, .int .u32 0, .slice none 0 0] 29)) := ((((Grw.refl w).alloc _).alloc _).alloc _).below
  have hz3 : (((w.alloc (.cells #[.int .i64 sz, .int .u32 (c : Int), .slice ho S.held.length hc] 29)).alloc (.cells #[.int .i64 f, .int .u32 (q : Int), .int .u64 s, .int .i64 v, .slice a dl dc, .string text] 37)).alloc (.cells #[.int .i64 0, .int .u32 0, .slice none 0 0] 29)).heap.size = w.heap.size + 3 := by simp
  have HL := Lib.hid hl
  have HD := Lib.hid hd
  have HC := Lib.hid (show (ho = none → hc = 0) ∧ S.held.length ≤ hc from ⟨hc0, hcl⟩)
  have HI := Lib.hid hI
  have HFT := Lib.hid hft
  have HSZ := Lib.hid hsz
  have HCS := Lib.hid hcs
  clear hl hd hc0 hcl hI hft hsz hcs
  go_enter Try.func12, Try.ntmps12
  go_upto_region 1 with fail
  generalize (((w.alloc (.cells #[.int .i64 sz, .int .u32 (c : Int), .slice ho S.held.length hc] 29)).alloc (.cells #[.int .i64 f, .int .u32 (q : Int), .int .u64 s, .int .i64 v, .slice a dl dc, .string text] 37)).alloc (.cells #[.int .i64 0, .int .u32 0, .slice none 0 0] 29)) = W at *
  have m1 := M3.own.at_ 1 _ rfl
  have v0 := E3.own.at_ 0 _ rfl
  have v1 := E3.own.at_ 1 _ rfl
  have v2 := E3.own.at_ 2 _ rfl
  have HFI := rfind (HL.out.below L3) HFT.out (by have := HI.out.few; omega) sz (c : Int) hc q hq4
  rw [HII.out] at HFI
  go_upto_region 5 with (first
    | (refine load_rs rfl (.tmp 2) rfl w.heap.size rfl E3 ?_)
    | (go_at_call 23; refine HFI.mono ?_; rintro e w1 ⟨rfl, G1⟩))
  have EV := E3.below G1.below
  have RV := R3.below G1.below
  have MV := M3.later G1.below
  have LV := Lib.hid (L3.trans (G1.below.mono L3.size))
  have hzv := G1.below.size
  clear HFI E3 R3 M3 m1 v0 v1 v2 G1 L3
  obtain ⟨V, hV⟩ : ∃ V, V = w1 := ⟨_, rfl⟩
  subst hV
  have m1 := MV.own.at_ 1 _ rfl
  have v0 := EV.own.at_ 0 _ rfl
  have v1 := EV.own.at_ 1 _ rfl
  have v2 := EV.own.at_ 2 _ rfl
  go_upto_region 7 with fail
  clear m1 v0 v1 v2
  have HFA := Lib.hid hf
  clear hf hle hqz
  generalize he0 : w.heap.size = e0 at *
  have HE0 := Lib.hid he0
  clear he0
  have hBe : B ≤ e0 := hB
  go_cut [44] (fun _ wx => ∃ (az : Option Addr) (cz : Nat), RlSt w wx e0 B sz c (S.held ++ ([⟨f, (q : Int), s, v, a, dl, dc, deps, text⟩] : List Mg)) az cz [] none 0)
  case first =>
    have RB0 : RlB w V.drew e0 B sz c (.slice ho S.held.length hc) [] none 0 := ⟨⟨LV.out.os, LV.out.tape, LV.out.output, LV.out.size, LV.out.block⟩, EV, RV, OutAt.nil _ _ _, by show e0 + 3 ≤ V.heap.size; omega, hBe⟩
    have HRB := Lib.hid RB0
    have MB0 : MgB V.drew (e0 + 1) ⟨f, (q : Int), s, v, a, dl, dc, deps, text⟩ := MV
    have HMB := Lib.hid MB0
    clear RB0 EV RV MV
    refine wp_region_held_drew (S := fun w' => MgB w' (e0 + 1) ⟨f, (q : Int), s, v, a, dl, dc, deps, text⟩) (by kernel_rfl) MB0 (fun hHeld => ?_)
    clear MB0
    have hV0 : e0 + 3 ≤ V.drew.heap.size := by show e0 + 3 ≤ V.heap.size; omega
    generalize V.drew = V0 at *
    have HSZ0 : Hid (∀ W, Below V0.heap.size V0 W → V0.heap.size ≤ W.heap.size) := Lib.hid fun W hb => hb.size
    have HRBL : Hid (∀ W, Below V0.heap.size V0 W → RlB w W e0 B sz c (.slice ho S.held.length hc) [] none 0) := Lib.hid fun W hb => HRB.out.later hb
    have HMBL : Hid (∀ W, Below V0.heap.size V0 W → MgB W (e0 + 1) ⟨f, (q : Int), s, v, a, dl, dc, deps, text⟩) := Lib.hid fun W hb => HMB.out.later hb
    have HWW : ∀ W, Below V0.heap.size V0 W → Below w.heap.size w W := fun W hb => by have := (HRB.out.later hb).below; rw [HE0.out]; exact this
    have HLL : Hid (∀ W, Below V0.heap.size V0 W → LikeAt W (newB B) ho S.held) := Lib.hid fun W hb => HL.out.below (HWW W hb)
    have HDM : Hid (∀ W, Below V0.heap.size V0 W → DpOff W (newB B) ⟨f, (q : Int), s, v, a, dl, dc, deps, text⟩) := Lib.hid fun W hb => HD.out.kept fun k hk _ => (HWW W hb).block k hk
    have HFINAL : Hid (∀ W az cz, Below V0.heap.size V0 W → OutAt W (newB B) V0.heap.size az cz (S.held ++ ([⟨f, (q : Int), s, v, a, dl, dc, deps, text⟩] : List Mg)) → RlSt w (W.setCell ⟨e0, 2, none⟩ (.slice az (S.held ++ ([⟨f, (q : Int), s, v, a, dl, dc, deps, text⟩] : List Mg)).length cz)) e0 B sz c (S.held ++ ([⟨f, (q : Int), s, v, a, dl, dc, deps, text⟩] : List Mg)) az cz [] none 0) := Lib.hid fun W az cz hb hz => HRB.out.final hb hz
    obtain ⟨nl, hnl⟩ : ∃ nl, (S.held ++ ([⟨f, (q : Int), s, v, a, dl, dc, deps, text⟩] : List Mg)).length = nl := ⟨_, rfl⟩
    have HNL := Lib.hid hnl
    rw [hnl] at HFINAL
    clear hnl
    have L : Below V0.heap.size V0 V0 := Below.refl _ _
    have hBh : B ≤ V0.heap.size := by omega
    clear HRB HMB HWW
    generalize V0.heap.size = h0 at *
    refine stake (i := 1) (v := (.pointer (some ⟨e0, 2, none⟩))) 38 rfl (by kernel_rfl) (by kernel_rfl) (by kernel_rfl) (by kernel_rfl) (fun _ _ _ h => h) (.inl ⟨by kernel_rfl, fun w' hS => by (go_simp)⟩) hHeld ?_
    (try simp only [Act.put, List.setIfInBounds_toArray, List.set_cons_zero, List.set_cons_succ])
    refine stake (i := 4) (v := (.agg #[.int .i64 f, .int .u32 (q : Int), .int .u64 s, .int .i64 v, .slice a dl dc, .string text])) 41 rfl (by kernel_rfl) (by kernel_rfl) (by kernel_rfl) (by kernel_rfl) (fun _ _ _ h => h) (yields_mg (m := ⟨f, (q : Int), s, v, a, dl, dc, deps, text⟩) (by kernel_rfl) (.tmp 3) rfl (e0 + 1) (by kernel_rfl) (fun _ hS => hS)) hHeld ?_
    (try simp only [Act.put, List.setIfInBounds_toArray, List.set_cons_zero, List.set_cons_succ])
    refine wpAnyH_ready (rs := [0, 2, 5]) (by kernel_rfl) (by simp) (AllReadyH.cons rfl (fun K hK => ?_) (AllReadyH.cons rfl (fun K hK => ?_) (AllReadyH.cons rfl (fun K hK => ?_) AllReadyH.nil)))
    · clear hHeld
      rw [if_pos (by kernel_rfl)]
      go_simp
      have hh := HSZ0.out _ L
      have ROW := (out_made V0 (newB B)).base_le hh
      have L := L.alloc hh (.cells #[] 37)
      generalize (V0.alloc (.cells #[] 37)) = U0 at *
      generalize V0.heap.size = nb at *
      refine hK.out _ _ (HMBL.out _ L) (fun hHeld => ?_)
      clear hK K
      (try simp only [Act.put, List.setIfInBounds_toArray, List.set_cons_zero, List.set_cons_succ])
      refine wpAnyH_ready (rs := [2, 5]) (by kernel_rfl) (by simp) (AllReadyH.cons rfl (fun K hK => ?_) (AllReadyH.cons rfl (fun K hK => ?_) AllReadyH.nil))
      · clear hHeld
        rw [if_pos (by kernel_rfl)]
        have EW := (HRBL.out _ L).e
        have c2 := EW.own.at_ 2 _ rfl
        go_simp
        clear c2 EW
        refine hK.out _ _ (HMBL.out _ L) (fun hHeld => ?_)
        clear hK K
        (try simp only [Act.put, List.setIfInBounds_toArray, List.set_cons_zero, List.set_cons_succ])
        refine wpAnyH_ready (rs := [3, 5]) (by kernel_rfl) (by simp) (AllReadyH.cons rfl (fun K hK => ?_) (AllReadyH.cons rfl (fun K hK => ?_) AllReadyH.nil))
        · clear hHeld
          rw [if_pos (by kernel_rfl)]
          refine wp_append_like U0 (.tmp 37) (.tmp 39) rfl (newB B) h0 (some ⟨nb, 0, none⟩) 0 [] rfl ROW ho hc S.held rfl HC.out.1 (HLL.out _ L) (fun x e => by have := ROW.place x e; show B ≤ x.block; omega) (by have := HI.out.few; simp; omega) (HSZ0.out _ L) ?_
          intro aa ca U2 ROWA GA LA
          have hnbp := (ROW.place _ rfl).1
          have L := L.grown GA (HSZ0.out _ L) (fun k hk => by obtain ⟨x, e, rfl⟩ := own_of_slice hk; exact (ROW.place x e).1)
          have ROWA := ROWA.less (F' := newB B) (fun k hk => .inl hk)
          rw [List.nil_append] at ROWA ⊢
          clear GA LA ROW hnbp
          refine hK.out _ _ (HMBL.out _ L) (fun hHeld => ?_)
          clear hK K
          (try simp only [Act.put, List.setIfInBounds_toArray, List.set_cons_zero, List.set_cons_succ])
          refine wpAnyH_ready (rs := [5]) (by kernel_rfl) (by simp) (AllReadyH.cons rfl (fun K hK => ?_) AllReadyH.nil)
          clear hHeld
          rw [if_pos (by kernel_rfl)]
          go_simp
          have hh := HSZ0.out _ L
          have X : LikeAt (U2.alloc (.cells #[.int .i64 f, .int .u32 (q : Int), .int .u64 s, .int .i64 v, .slice a dl dc, .string text] 37)) (newB B) (some ⟨U2.heap.size, 0, none⟩) [⟨f, (q : Int), s, v, a, dl, dc, deps, text⟩] := (out_one (MgB.new U2 ⟨f, (q : Int), s, v, a, dl, dc, deps, text⟩) (Like.refl _) (HDM.out _ (L.alloc hh (.cells #[.int .i64 f, .int .u32 (q : Int), .int .u64 s, .int .i64 v, .slice a dl dc, .string text] 37)))).like
          have hxl : U2.heap.size < (U2.alloc (.cells #[.int .i64 f, .int .u32 (q : Int), .int .u64 s, .int .i64 v, .slice a dl dc, .string text] 37)).heap.size := by simp
          have ROWA := ROWA.below ((Grw.refl U2).alloc (.cells #[.int .i64 f, .int .u32 (q : Int), .int .u64 s, .int .i64 v, .slice a dl dc, .string text] 37)).below
          have L := L.alloc hh (.cells #[.int .i64 f, .int .u32 (q : Int), .int .u64 s, .int .i64 v, .slice a dl dc, .string text] 37)
          generalize (U2.alloc (.cells #[.int .i64 f, .int .u32 (q : Int), .int .u64 s, .int .i64 v, .slice a dl dc, .string text] 37)) = U3 at *
          generalize U2.heap.size = xb at *
          refine hK.out _ _ (HMBL.out _ L) (fun hHeld => ?_)
          clear hK K
          (try simp only [Act.put, List.setIfInBounds_toArray, List.set_cons_zero, List.set_cons_succ])
          refine wpAnyH_ready (rs := [6]) (by kernel_rfl) (by simp) (AllReadyH.cons rfl (fun K hK => ?_) AllReadyH.nil)
          clear hHeld
          rw [if_pos (by kernel_rfl)]
          refine wp_append_like U3 (.tmp 40) (.tmp 42) rfl (newB B) h0 aa ca S.held rfl ROWA (some ⟨xb, 0, none⟩) 1 [⟨f, (q : Int), s, v, a, dl, dc, deps, text⟩] rfl (fun e => by cases e) X (fun x e => by have := ROWA.place x e; show B ≤ x.block; omega) (by have := HI.out.few; simp; omega) (HSZ0.out _ L) ?_
          intro az cz U4 ROWZ GA LA
          have L := L.grown GA (HSZ0.out _ L) (fun k hk => by obtain ⟨x, e, rfl⟩ := own_of_slice hk; exact (ROWA.place x e).1)
          have ROWZ := ROWZ.less (F' := newB B) (fun k hk => .inl hk)
          clear GA LA ROWA X
          rw [HNL.out]
          refine hK.out _ _ (HMBL.out _ L) (fun hHeld => ?_)
          clear hK K
          (try simp only [Act.put, List.setIfInBounds_toArray, List.set_cons_zero, List.set_cons_succ])
          refine stake (i := 7) (v := (.pointer (some ⟨e0, 2, none⟩))) 44 rfl (by kernel_rfl) (by kernel_rfl) (by kernel_rfl) (by kernel_rfl) (fun _ _ _ h => h) (.inl ⟨by kernel_rfl, fun w' hS => by (go_simp)⟩) hHeld ?_
          (try simp only [Act.put, List.setIfInBounds_toArray, List.set_cons_zero, List.set_cons_succ])
          refine wpAnyH_ready (rs := [8]) (by kernel_rfl) (by simp) (AllReadyH.cons rfl (fun K hK => ?_) AllReadyH.nil)
          clear hHeld
          rw [if_pos (by kernel_rfl)]
          have EW := (HRBL.out _ L).e
          have c2 := EW.own.at_ 2 _ rfl
          have f2 := EW.own.free 2
          have FIN := Lib.hid (HFINAL.out _ az cz L ROWZ)
          have MF : MgB (U4.setCell ⟨e0, 2, none⟩ (.slice az nl cz)) (e0 + 1) ⟨f, (q : Int), s, v, a, dl, dc, deps, text⟩ := Own.set_other (HMBL.out _ L) _ _ _ (by omega)
          go_simp
          refine hK.out _ _ MF (fun hHeld => ?_)
          clear hK K hHeld MF EW c2 f2 L ROWZ
          (try simp only [Act.put, List.setIfInBounds_toArray, List.set_cons_zero, List.set_cons_succ])
          refine wpAnyH_done (by kernel_rfl) ?_ _
          go_wp2_with fail
          go_meet
          exact ⟨az, cz, FIN.out⟩
        · clear hHeld
          rw [if_pos (by kernel_rfl)]
          go_simp
          have hh := HSZ0.out _ L
          have X : LikeAt (U0.alloc (.cells #[.int .i64 f, .int .u32 (q : Int), .int .u64 s, .int .i64 v, .slice a dl dc, .string text] 37)) (newB B) (some ⟨U0.heap.size, 0, none⟩) [⟨f, (q : Int), s, v, a, dl, dc, deps, text⟩] := (out_one (MgB.new U0 ⟨f, (q : Int), s, v, a, dl, dc, deps, text⟩) (Like.refl _) (HDM.out _ (L.alloc hh (.cells #[.int .i64 f, .int .u32 (q : Int), .int .u64 s, .int .i64 v, .slice a dl dc, .string text] 37)))).like
          have hxl : U0.heap.size < (U0.alloc (.cells #[.int .i64 f, .int .u32 (q : Int), .int .u64 s, .int .i64 v, .slice a dl dc, .string text] 37)).heap.size := by simp
          have hxn : U0.heap.size ≠ nb := by have := (ROW.place _ rfl).2; simp at this; omega
          have ROW := ROW.below ((Grw.refl U0).alloc (.cells #[.int .i64 f, .int .u32 (q : Int), .int .u64 s, .int .i64 v, .slice a dl dc, .string text] 37)).below
          have L := L.alloc hh (.cells #[.int .i64 f, .int .u32 (q : Int), .int .u64 s, .int .i64 v, .slice a dl dc, .string text] 37)
          generalize (U0.alloc (.cells #[.int .i64 f, .int .u32 (q : Int), .int .u64 s, .int .i64 v, .slice a dl dc, .string text] 37)) = U2 at *
          generalize U0.heap.size = xb at *
          refine hK.out _ _ (HMBL.out _ L) (fun hHeld => ?_)
          clear hK K
          (try simp only [Act.put, List.setIfInBounds_toArray, List.set_cons_zero, List.set_cons_succ])
          refine wpAnyH_ready (rs := [3]) (by kernel_rfl) (by simp) (AllReadyH.cons rfl (fun K hK => ?_) AllReadyH.nil)
          clear hHeld
          rw [if_pos (by kernel_rfl)]
          refine wp_append_like U2 (.tmp 37) (.tmp 39) rfl (newB B) h0 (some ⟨nb, 0, none⟩) 0 [] rfl ROW ho hc S.held rfl HC.out.1 (HLL.out _ L) (fun x e => by have := ROW.place x e; show B ≤ x.block; omega) (by have := HI.out.few; simp; omega) (HSZ0.out _ L) ?_
          intro aa ca U3 ROWA GA LA
          have hnbp := (ROW.place _ rfl).1
          have L := L.grown GA (HSZ0.out _ L) (fun k hk => by obtain ⟨x, e, rfl⟩ := own_of_slice hk; exact (ROW.place x e).1)
          have ROWA := ROWA.less (F' := newB B) (fun k hk => .inl hk)
          rw [List.nil_append] at ROWA ⊢
          have X := X.grown_off GA (fun k hk => by obtain ⟨x, e, rfl⟩ := own_of_slice hk; cases e; exact ⟨hxn, by simp at hnbp; show B ≤ nb; omega⟩)
          clear GA LA ROW hnbp
          refine hK.out _ _ (HMBL.out _ L) (fun hHeld => ?_)
          clear hK K
          (try simp only [Act.put, List.setIfInBounds_toArray, List.set_cons_zero, List.set_cons_succ])
          refine wpAnyH_ready (rs := [6]) (by kernel_rfl) (by simp) (AllReadyH.cons rfl (fun K hK => ?_) AllReadyH.nil)
          clear hHeld
          rw [if_pos (by kernel_rfl)]
          refine wp_append_like U3 (.tmp 40) (.tmp 42) rfl (newB B) h0 aa ca S.held rfl ROWA (some ⟨xb, 0, none⟩) 1 [⟨f, (q : Int), s, v, a, dl, dc, deps, text⟩] rfl (fun e => by cases e) X (fun x e => by have := ROWA.place x e; show B ≤ x.block; omega) (by have := HI.out.few; simp; omega) (HSZ0.out _ L) ?_
          intro az cz U4 ROWZ GA LA
          have L := L.grown GA (HSZ0.out _ L) (fun k hk => by obtain ⟨x, e, rfl⟩ := own_of_slice hk; exact (ROWA.place x e).1)
          have ROWZ := ROWZ.less (F' := newB B) (fun k hk => .inl hk)
          clear GA LA ROWA X
          rw [HNL.out]
          refine hK.out _ _ (HMBL.out _ L) (fun hHeld => ?_)
          clear hK K
          (try simp only [Act.put, List.setIfInBounds_toArray, List.set_cons_zero, List.set_cons_succ])
          refine stake (i := 7) (v := (.pointer (some ⟨e0, 2, none⟩))) 44 rfl (by kernel_rfl) (by kernel_rfl) (by kernel_rfl) (by kernel_rfl) (fun _ _ _ h => h) (.inl ⟨by kernel_rfl, fun w' hS => by (go_simp)⟩) hHeld ?_
          (try simp only [Act.put, List.setIfInBounds_toArray, List.set_cons_zero, List.set_cons_succ])
          refine wpAnyH_ready (rs := [8]) (by kernel_rfl) (by simp) (AllReadyH.cons rfl (fun K hK => ?_) AllReadyH.nil)
          clear hHeld
          rw [if_pos (by kernel_rfl)]
          have EW := (HRBL.out _ L).e
          have c2 := EW.own.at_ 2 _ rfl
          have f2 := EW.own.free 2
          have FIN := Lib.hid (HFINAL.out _ az cz L ROWZ)
          have MF : MgB (U4.setCell ⟨e0, 2, none⟩ (.slice az nl cz)) (e0 + 1) ⟨f, (q : Int), s, v, a, dl, dc, deps, text⟩ := Own.set_other (HMBL.out _ L) _ _ _ (by omega)
          go_simp
          refine hK.out _ _ MF (fun hHeld => ?_)
          clear hK K hHeld MF EW c2 f2 L ROWZ
          (try simp only [Act.put, List.setIfInBounds_toArray, List.set_cons_zero, List.set_cons_succ])
          refine wpAnyH_done (by kernel_rfl) ?_ _
          go_wp2_with fail
          go_meet
          exact ⟨az, cz, FIN.out⟩
      · clear hHeld
        rw [if_pos (by kernel_rfl)]
        go_simp
        have hh := HSZ0.out _ L
        have X : LikeAt (U0.alloc (.cells #[.int .i64 f, .int .u32 (q : Int), .int .u64 s, .int .i64 v, .slice a dl dc, .string text] 37)) (newB B) (some ⟨U0.heap.size, 0, none⟩) [⟨f, (q : Int), s, v, a, dl, dc, deps, text⟩] := (out_one (MgB.new U0 ⟨f, (q : Int), s, v, a, dl, dc, deps, text⟩) (Like.refl _) (HDM.out _ (L.alloc hh (.cells #[.int .i64 f, .int .u32 (q : Int), .int .u64 s, .int .i64 v, .slice a dl dc, .string text] 37)))).like
        have hxl : U0.heap.size < (U0.alloc (.cells #[.int .i64 f, .int .u32 (q : Int), .int .u64 s, .int .i64 v, .slice a dl dc, .string text] 37)).heap.size := by simp
        have hxn : U0.heap.size ≠ nb := by have := (ROW.place _ rfl).2; simp at this; omega
        have ROW := ROW.below ((Grw.refl U0).alloc (.cells #[.int .i64 f, .int .u32 (q : Int), .int .u64 s, .int .i64 v, .slice a dl dc, .string text] 37)).below
        have L := L.alloc hh (.cells #[.int .i64 f, .int .u32 (q : Int), .int .u64 s, .int .i64 v, .slice a dl dc, .string text] 37)
        generalize (U0.alloc (.cells #[.int .i64 f, .int .u32 (q : Int), .int .u64 s, .int .i64 v, .slice a dl dc, .string text] 37)) = U1 at *
        generalize U0.heap.size = xb at *
        refine hK.out _ _ (HMBL.out _ L) (fun hHeld => ?_)
        clear hK K
        (try simp only [Act.put, List.setIfInBounds_toArray, List.set_cons_zero, List.set_cons_succ])
        refine wpAnyH_ready (rs := [2]) (by kernel_rfl) (by simp) (AllReadyH.cons rfl (fun K hK => ?_) AllReadyH.nil)
        clear hHeld
        rw [if_pos (by kernel_rfl)]
        have EW := (HRBL.out _ L).e
        have c2 := EW.own.at_ 2 _ rfl
        go_simp
        clear c2 EW
        refine hK.out _ _ (HMBL.out _ L) (fun hHeld => ?_)
        clear hK K
        (try simp only [Act.put, List.setIfInBounds_toArray, List.set_cons_zero, List.set_cons_succ])
        refine wpAnyH_ready (rs := [3]) (by kernel_rfl) (by simp) (AllReadyH.cons rfl (fun K hK => ?_) AllReadyH.nil)
        clear hHeld
        rw [if_pos (by kernel_rfl)]
        refine wp_append_like U1 (.tmp 37) (.tmp 39) rfl (newB B) h0 (some ⟨nb, 0, none⟩) 0 [] rfl ROW ho hc S.held rfl HC.out.1 (HLL.out _ L) (fun x e => by have := ROW.place x e; show B ≤ x.block; omega) (by have := HI.out.few; simp; omega) (HSZ0.out _ L) ?_
        intro aa ca U3 ROWA GA LA
        have hnbp := (ROW.place _ rfl).1
        have L := L.grown GA (HSZ0.out _ L) (fun k hk => by obtain ⟨x, e, rfl⟩ := own_of_slice hk; exact (ROW.place x e).1)
        have ROWA := ROWA.less (F' := newB B) (fun k hk => .inl hk)
        rw [List.nil_append] at ROWA ⊢
        have X := X.grown_off GA (fun k hk => by obtain ⟨x, e, rfl⟩ := own_of_slice hk; cases e; exact ⟨hxn, by simp at hnbp; show B ≤ nb; omega⟩)
        clear GA LA ROW hnbp
        refine hK.out _ _ (HMBL.out _ L) (fun hHeld => ?_)
        clear hK K
        (try simp only [Act.put, List.setIfInBounds_toArray, List.set_cons_zero, List.set_cons_succ])
        refine wpAnyH_ready (rs := [6]) (by kernel_rfl) (by simp) (AllReadyH.cons rfl (fun K hK => ?_) AllReadyH.nil)
        clear hHeld
        rw [if_pos (by kernel_rfl)]
        refine wp_append_like U3 (.tmp 40) (.tmp 42) rfl (newB B) h0 aa ca S.held rfl ROWA (some ⟨xb, 0, none⟩) 1 [⟨f, (q : Int), s, v, a, dl, dc, deps, text⟩] rfl (fun e => by cases e) X (fun x e => by have := ROWA.place x e; show B ≤ x.block; omega) (by have := HI.out.few; simp; omega) (HSZ0.out _ L) ?_
        intro az cz U4 ROWZ GA LA
        have L := L.grown GA (HSZ0.out _ L) (fun k hk => by obtain ⟨x, e, rfl⟩ := own_of_slice hk; exact (ROWA.place x e).1)
        have ROWZ := ROWZ.less (F' := newB B) (fun k hk => .inl hk)
        clear GA LA ROWA X
        rw [HNL.out]
        refine hK.out _ _ (HMBL.out _ L) (fun hHeld => ?_)
        clear hK K
        (try simp only [Act.put, List.setIfInBounds_toArray, List.set_cons_zero, List.set_cons_succ])
        refine stake (i := 7) (v := (.pointer (some ⟨e0, 2, none⟩))) 44 rfl (by kernel_rfl) (by kernel_rfl) (by kernel_rfl) (by kernel_rfl) (fun _ _ _ h => h) (.inl ⟨by kernel_rfl, fun w' hS => by (go_simp)⟩) hHeld ?_
        (try simp only [Act.put, List.setIfInBounds_toArray, List.set_cons_zero, List.set_cons_succ])
        refine wpAnyH_ready (rs := [8]) (by kernel_rfl) (by simp) (AllReadyH.cons rfl (fun K hK => ?_) AllReadyH.nil)
        clear hHeld
        rw [if_pos (by kernel_rfl)]
        have EW := (HRBL.out _ L).e
        have c2 := EW.own.at_ 2 _ rfl
        have f2 := EW.own.free 2
        have FIN := Lib.hid (HFINAL.out _ az cz L ROWZ)
        have MF : MgB (U4.setCell ⟨e0, 2, none⟩ (.slice az nl cz)) (e0 + 1) ⟨f, (q : Int), s, v, a, dl, dc, deps, text⟩ := Own.set_other (HMBL.out _ L) _ _ _ (by omega)
        go_simp
        refine hK.out _ _ MF (fun hHeld => ?_)
        clear hK K hHeld MF EW c2 f2 L ROWZ
        (try simp only [Act.put, List.setIfInBounds_toArray, List.set_cons_zero, List.set_cons_succ])
        refine wpAnyH_done (by kernel_rfl) ?_ _
        go_wp2_with fail
        go_meet
        exact ⟨az, cz, FIN.out⟩
    · clear hHeld
      rw [if_pos (by kernel_rfl)]
      have EW := (HRBL.out _ L).e
      have c2 := EW.own.at_ 2 _ rfl
      go_simp
      clear c2 EW
      refine hK.out _ _ (HMBL.out _ L) (fun hHeld => ?_)
      clear hK K
      (try simp only [Act.put, List.setIfInBounds_toArray, List.set_cons_zero, List.set_cons_succ])
      refine wpAnyH_ready (rs := [0, 5]) (by kernel_rfl) (by simp) (AllReadyH.cons rfl (fun K hK => ?_) (AllReadyH.cons rfl (fun K hK => ?_) AllReadyH.nil))
      · clear hHeld
        rw [if_pos (by kernel_rfl)]
        go_simp
        have hh := HSZ0.out _ L
        have ROW := (out_made V0 (newB B)).base_le hh
        have L := L.alloc hh (.cells #[] 37)
        generalize (V0.alloc (.cells #[] 37)) = U1 at *
        generalize V0.heap.size = nb at *
        refine hK.out _ _ (HMBL.out _ L) (fun hHeld => ?_)
        clear hK K
        (try simp only [Act.put, List.setIfInBounds_toArray, List.set_cons_zero, List.set_cons_succ])
        refine wpAnyH_ready (rs := [3, 5]) (by kernel_rfl) (by simp) (AllReadyH.cons rfl (fun K hK => ?_) (AllReadyH.cons rfl (fun K hK => ?_) AllReadyH.nil))
        · clear hHeld
          rw [if_pos (by kernel_rfl)]
          refine wp_append_like U1 (.tmp 37) (.tmp 39) rfl (newB B) h0 (some ⟨nb, 0, none⟩) 0 [] rfl ROW ho hc S.held rfl HC.out.1 (HLL.out _ L) (fun x e => by have := ROW.place x e; show B ≤ x.block; omega) (by have := HI.out.few; simp; omega) (HSZ0.out _ L) ?_
          intro aa ca U2 ROWA GA LA
          have hnbp := (ROW.place _ rfl).1
          have L := L.grown GA (HSZ0.out _ L) (fun k hk => by obtain ⟨x, e, rfl⟩ := own_of_slice hk; exact (ROW.place x e).1)
          have ROWA := ROWA.less (F' := newB B) (fun k hk => .inl hk)
          rw [List.nil_append] at ROWA ⊢
          clear GA LA ROW hnbp
          refine hK.out _ _ (HMBL.out _ L) (fun hHeld => ?_)
          clear hK K
          (try simp only [Act.put, List.setIfInBounds_toArray, List.set_cons_zero, List.set_cons_succ])
          refine wpAnyH_ready (rs := [5]) (by kernel_rfl) (by simp) (AllReadyH.cons rfl (fun K hK => ?_) AllReadyH.nil)
          clear hHeld
          rw [if_pos (by kernel_rfl)]
          go_simp
          have hh := HSZ0.out _ L
          have X : LikeAt (U2.alloc (.cells #[.int .i64 f, .int .u32 (q : Int), .int .u64 s, .int .i64 v, .slice a dl dc, .string text] 37)) (newB B) (some ⟨U2.heap.size, 0, none⟩) [⟨f, (q : Int), s, v, a, dl, dc, deps, text⟩] := (out_one (MgB.new U2 ⟨f, (q : Int), s, v, a, dl, dc, deps, text⟩) (Like.refl _) (HDM.out _ (L.alloc hh (.cells #[.int .i64 f, .int .u32 (q : Int), .int .u64 s, .int .i64 v, .slice a dl dc, .string text] 37)))).like
          have hxl : U2.heap.size < (U2.alloc (.cells #[.int .i64 f, .int .u32 (q : Int), .int .u64 s, .int .i64 v, .slice a dl dc, .string text] 37)).heap.size := by simp
          have ROWA := ROWA.below ((Grw.refl U2).alloc (.cells #[.int .i64 f, .int .u32 (q : Int), .int .u64 s, .int .i64 v, .slice a dl dc, .string text] 37)).below
          have L := L.alloc hh (.cells #[.int .i64 f, .int .u32 (q : Int), .int .u64 s, .int .i64 v, .slice a dl dc, .string text] 37)
          generalize (U2.alloc (.cells #[.int .i64 f, .int .u32 (q : Int), .int .u64 s, .int .i64 v, .slice a dl dc, .string text] 37)) = U3 at *
          generalize U2.heap.size = xb at *
          refine hK.out _ _ (HMBL.out _ L) (fun hHeld => ?_)
          clear hK K
          (try simp only [Act.put, List.setIfInBounds_toArray, List.set_cons_zero, List.set_cons_succ])
          refine wpAnyH_ready (rs := [6]) (by kernel_rfl) (by simp) (AllReadyH.cons rfl (fun K hK => ?_) AllReadyH.nil)
          clear hHeld
          rw [if_pos (by kernel_rfl)]
          refine wp_append_like U3 (.tmp 40) (.tmp 42) rfl (newB B) h0 aa ca S.held rfl ROWA (some ⟨xb, 0, none⟩) 1 [⟨f, (q : Int), s, v, a, dl, dc, deps, text⟩] rfl (fun e => by cases e) X (fun x e => by have := ROWA.place x e; show B ≤ x.block; omega) (by have := HI.out.few; simp; omega) (HSZ0.out _ L) ?_
          intro az cz U4 ROWZ GA LA
          have L := L.grown GA (HSZ0.out _ L) (fun k hk => by obtain ⟨x, e, rfl⟩ := own_of_slice hk; exact (ROWA.place x e).1)
          have ROWZ := ROWZ.less (F' := newB B) (fun k hk => .inl hk)
          clear GA LA ROWA X
          rw [HNL.out]
          refine hK.out _ _ (HMBL.out _ L) (fun hHeld => ?_)
          clear hK K
          (try simp only [Act.put, List.setIfInBounds_toArray, List.set_cons_zero, List.set_cons_succ])
          refine stake (i := 7) (v := (.pointer (some ⟨e0, 2, none⟩))) 44 rfl (by kernel_rfl) (by kernel_rfl) (by kernel_rfl) (by kernel_rfl) (fun _ _ _ h => h) (.inl ⟨by kernel_rfl, fun w' hS => by (go_simp)⟩) hHeld ?_
          (try simp only [Act.put, List.setIfInBounds_toArray, List.set_cons_zero, List.set_cons_succ])
          refine wpAnyH_ready (rs := [8]) (by kernel_rfl) (by simp) (AllReadyH.cons rfl (fun K hK => ?_) AllReadyH.nil)
          clear hHeld
          rw [if_pos (by kernel_rfl)]
          have EW := (HRBL.out _ L).e
          have c2 := EW.own.at_ 2 _ rfl
          have f2 := EW.own.free 2
          have FIN := Lib.hid (HFINAL.out _ az cz L ROWZ)
          have MF : MgB (U4.setCell ⟨e0, 2, none⟩ (.slice az nl cz)) (e0 + 1) ⟨f, (q : Int), s, v, a, dl, dc, deps, text⟩ := Own.set_other (HMBL.out _ L) _ _ _ (by omega)
          go_simp
          refine hK.out _ _ MF (fun hHeld => ?_)
          clear hK K hHeld MF EW c2 f2 L ROWZ
          (try simp only [Act.put, List.setIfInBounds_toArray, List.set_cons_zero, List.set_cons_succ])
          refine wpAnyH_done (by kernel_rfl) ?_ _
          go_wp2_with fail
          go_meet
          exact ⟨az, cz, FIN.out⟩
        · clear hHeld
          rw [if_pos (by kernel_rfl)]
          go_simp
          have hh := HSZ0.out _ L
          have X : LikeAt (U1.alloc (.cells #[.int .i64 f, .int .u32 (q : Int), .int .u64 s, .int .i64 v, .slice a dl dc, .string text] 37)) (newB B) (some ⟨U1.heap.size, 0, none⟩) [⟨f, (q : Int), s, v, a, dl, dc, deps, text⟩] := (out_one (MgB.new U1 ⟨f, (q : Int), s, v, a, dl, dc, deps, text⟩) (Like.refl _) (HDM.out _ (L.alloc hh (.cells #[.int .i64 f, .int .u32 (q : Int), .int .u64 s, .int .i64 v, .slice a dl dc, .string text] 37)))).like
          have hxl : U1.heap.size < (U1.alloc (.cells #[.int .i64 f, .int .u32 (q : Int), .int .u64 s, .int .i64 v, .slice a dl dc, .string text] 37)).heap.size := by simp
          have hxn : U1.heap.size ≠ nb := by have := (ROW.place _ rfl).2; simp at this; omega
          have ROW := ROW.below ((Grw.refl U1).alloc (.cells #[.int .i64 f, .int .u32 (q : Int), .int .u64 s, .int .i64 v, .slice a dl dc, .string text] 37)).below
          have L := L.alloc hh (.cells #[.int .i64 f, .int .u32 (q : Int), .int .u64 s, .int .i64 v, .slice a dl dc, .string text] 37)
          generalize (U1.alloc (.cells #[.int .i64 f, .int .u32 (q : Int), .int .u64 s, .int .i64 v, .slice a dl dc, .string text] 37)) = U2 at *
          generalize U1.heap.size = xb at *
          refine hK.out _ _ (HMBL.out _ L) (fun hHeld => ?_)
          clear hK K
          (try simp only [Act.put, List.setIfInBounds_toArray, List.set_cons_zero, List.set_cons_succ])
          refine wpAnyH_ready (rs := [3]) (by kernel_rfl) (by simp) (AllReadyH.cons rfl (fun K hK => ?_) AllReadyH.nil)
          clear hHeld
          rw [if_pos (by kernel_rfl)]
          refine wp_append_like U2 (.tmp 37) (.tmp 39) rfl (newB B) h0 (some ⟨nb, 0, none⟩) 0 [] rfl ROW ho hc S.held rfl HC.out.1 (HLL.out _ L) (fun x e => by have := ROW.place x e; show B ≤ x.block; omega) (by have := HI.out.few; simp; omega) (HSZ0.out _ L) ?_
          intro aa ca U3 ROWA GA LA
          have hnbp := (ROW.place _ rfl).1
          have L := L.grown GA (HSZ0.out _ L) (fun k hk => by obtain ⟨x, e, rfl⟩ := own_of_slice hk; exact (ROW.place x e).1)
          have ROWA := ROWA.less (F' := newB B) (fun k hk => .inl hk)
          rw [List.nil_append] at ROWA ⊢
          have X := X.grown_off GA (fun k hk => by obtain ⟨x, e, rfl⟩ := own_of_slice hk; cases e; exact ⟨hxn, by simp at hnbp; show B ≤ nb; omega⟩)
          clear GA LA ROW hnbp
          refine hK.out _ _ (HMBL.out _ L) (fun hHeld => ?_)
          clear hK K
          (try simp only [Act.put, List.setIfInBounds_toArray, List.set_cons_zero, List.set_cons_succ])
          refine wpAnyH_ready (rs := [6]) (by kernel_rfl) (by simp) (AllReadyH.cons rfl (fun K hK => ?_) AllReadyH.nil)
          clear hHeld
          rw [if_pos (by kernel_rfl)]
          refine wp_append_like U3 (.tmp 40) (.tmp 42) rfl (newB B) h0 aa ca S.held rfl ROWA (some ⟨xb, 0, none⟩) 1 [⟨f, (q : Int), s, v, a, dl, dc, deps, text⟩] rfl (fun e => by cases e) X (fun x e => by have := ROWA.place x e; show B ≤ x.block; omega) (by have := HI.out.few; simp; omega) (HSZ0.out _ L) ?_
          intro az cz U4 ROWZ GA LA
          have L := L.grown GA (HSZ0.out _ L) (fun k hk => by obtain ⟨x, e, rfl⟩ := own_of_slice hk; exact (ROWA.place x e).1)
          have ROWZ := ROWZ.less (F' := newB B) (fun k hk => .inl hk)
          clear GA LA ROWA X
          rw [HNL.out]
          refine hK.out _ _ (HMBL.out _ L) (fun hHeld => ?_)
          clear hK K
          (try simp only [Act.put, List.setIfInBounds_toArray, List.set_cons_zero, List.set_cons_succ])
          refine stake (i := 7) (v := (.pointer (some ⟨e0, 2, none⟩))) 44 rfl (by kernel_rfl) (by kernel_rfl) (by kernel_rfl) (by kernel_rfl) (fun _ _ _ h => h) (.inl ⟨by kernel_rfl, fun w' hS => by (go_simp)⟩) hHeld ?_
          (try simp only [Act.put, List.setIfInBounds_toArray, List.set_cons_zero, List.set_cons_succ])
          refine wpAnyH_ready (rs := [8]) (by kernel_rfl) (by simp) (AllReadyH.cons rfl (fun K hK => ?_) AllReadyH.nil)
          clear hHeld
          rw [if_pos (by kernel_rfl)]
          have EW := (HRBL.out _ L).e
          have c2 := EW.own.at_ 2 _ rfl
          have f2 := EW.own.free 2
          have FIN := Lib.hid (HFINAL.out _ az cz L ROWZ)
          have MF : MgB (U4.setCell ⟨e0, 2, none⟩ (.slice az nl cz)) (e0 + 1) ⟨f, (q : Int), s, v, a, dl, dc, deps, text⟩ := Own.set_other (HMBL.out _ L) _ _ _ (by omega)
          go_simp
          refine hK.out _ _ MF (fun hHeld => ?_)
          clear hK K hHeld MF EW c2 f2 L ROWZ
          (try simp only [Act.put, List.setIfInBounds_toArray, List.set_cons_zero, List.set_cons_succ])
          refine wpAnyH_done (by kernel_rfl) ?_ _
          go_wp2_with fail
          go_meet
          exact ⟨az, cz, FIN.out⟩
      · clear hHeld
        rw [if_pos (by kernel_rfl)]
        go_simp
        have hh := HSZ0.out _ L
        have X : LikeAt (V0.alloc (.cells #[.int .i64 f, .int .u32 (q : Int), .int .u64 s, .int .i64 v, .slice a dl dc, .string text] 37)) (newB B) (some ⟨V0.heap.size, 0, none⟩) [⟨f, (q : Int), s, v, a, dl, dc, deps, text⟩] := (out_one (MgB.new V0 ⟨f, (q : Int), s, v, a, dl, dc, deps, text⟩) (Like.refl _) (HDM.out _ (L.alloc hh (.cells #[.int .i64 f, .int .u32 (q : Int), .int .u64 s, .int .i64 v, .slice a dl dc, .string text] 37)))).like
        have hxl : V0.heap.size < (V0.alloc (.cells #[.int .i64 f, .int .u32 (q : Int), .int .u64 s, .int .i64 v, .slice a dl dc, .string text] 37)).heap.size := by simp
        have L := L.alloc hh (.cells #[.int .i64 f, .int .u32 (q : Int), .int .u64 s, .int .i64 v, .slice a dl dc, .string text] 37)
        generalize (V0.alloc (.cells #[.int .i64 f, .int .u32 (q : Int), .int .u64 s, .int .i64 v, .slice a dl dc, .string text] 37)) = U1 at *
        generalize V0.heap.size = xb at *
        refine hK.out _ _ (HMBL.out _ L) (fun hHeld => ?_)
        clear hK K
        (try simp only [Act.put, List.setIfInBounds_toArray, List.set_cons_zero, List.set_cons_succ])
        refine wpAnyH_ready (rs := [0]) (by kernel_rfl) (by simp) (AllReadyH.cons rfl (fun K hK => ?_) AllReadyH.nil)
        clear hHeld
        rw [if_pos (by kernel_rfl)]
        go_simp
        have hh := HSZ0.out _ L
        have ROW := (out_made U1 (newB B)).base_le hh
        have L := L.alloc hh (.cells #[] 37)
        have X := X.below ((Grw.refl U1).alloc (.cells #[] 37)).below
        have hxn : xb ≠ U1.heap.size := by omega
        generalize (U1.alloc (.cells #[] 37)) = U2 at *
        generalize U1.heap.size = nb at *
        refine hK.out _ _ (HMBL.out _ L) (fun hHeld => ?_)
        clear hK K
        (try simp only [Act.put, List.setIfInBounds_toArray, List.set_cons_zero, List.set_cons_succ])
        refine wpAnyH_ready (rs := [3]) (by kernel_rfl) (by simp) (AllReadyH.cons rfl (fun K hK => ?_) AllReadyH.nil)
        clear hHeld
        rw [if_pos (by kernel_rfl)]
        refine wp_append_like U2 (.tmp 37) (.tmp 39) rfl (newB B) h0 (some ⟨nb, 0, none⟩) 0 [] rfl ROW ho hc S.held rfl HC.out.1 (HLL.out _ L) (fun x e => by have := ROW.place x e; show B ≤ x.block; omega) (by have := HI.out.few; simp; omega) (HSZ0.out _ L) ?_
        intro aa ca U3 ROWA GA LA
        have hnbp := (ROW.place _ rfl).1
        have L := L.grown GA (HSZ0.out _ L) (fun k hk => by obtain ⟨x, e, rfl⟩ := own_of_slice hk; exact (ROW.place x e).1)
        have ROWA := ROWA.less (F' := newB B) (fun k hk => .inl hk)
        rw [List.nil_append] at ROWA ⊢
        have X := X.grown_off GA (fun k hk => by obtain ⟨x, e, rfl⟩ := own_of_slice hk; cases e; exact ⟨hxn, by simp at hnbp; show B ≤ nb; omega⟩)
        clear GA LA ROW hnbp
        refine hK.out _ _ (HMBL.out _ L) (fun hHeld => ?_)
        clear hK K
        (try simp only [Act.put, List.setIfInBounds_toArray, List.set_cons_zero, List.set_cons_succ])
        refine wpAnyH_ready (rs := [6]) (by kernel_rfl) (by simp) (AllReadyH.cons rfl (fun K hK => ?_) AllReadyH.nil)
        clear hHeld
        rw [if_pos (by kernel_rfl)]
        refine wp_append_like U3 (.tmp 40) (.tmp 42) rfl (newB B) h0 aa ca S.held rfl ROWA (some ⟨xb, 0, none⟩) 1 [⟨f, (q : Int), s, v, a, dl, dc, deps, text⟩] rfl (fun e => by cases e) X (fun x e => by have := ROWA.place x e; show B ≤ x.block; omega) (by have := HI.out.few; simp; omega) (HSZ0.out _ L) ?_
        intro az cz U4 ROWZ GA LA
        have L := L.grown GA (HSZ0.out _ L) (fun k hk => by obtain ⟨x, e, rfl⟩ := own_of_slice hk; exact (ROWA.place x e).1)
        have ROWZ := ROWZ.less (F' := newB B) (fun k hk => .inl hk)
        clear GA LA ROWA X
        rw [HNL.out]
        refine hK.out _ _ (HMBL.out _ L) (fun hHeld => ?_)
        clear hK K
        (try simp only [Act.put, List.setIfInBounds_toArray, List.set_cons_zero, List.set_cons_succ])
        refine stake (i := 7) (v := (.pointer (some ⟨e0, 2, none⟩))) 44 rfl (by kernel_rfl) (by kernel_rfl) (by kernel_rfl) (by kernel_rfl) (fun _ _ _ h => h) (.inl ⟨by kernel_rfl, fun w' hS => by (go_simp)⟩) hHeld ?_
        (try simp only [Act.put, List.setIfInBounds_toArray, List.set_cons_zero, List.set_cons_succ])
        refine wpAnyH_ready (rs := [8]) (by kernel_rfl) (by simp) (AllReadyH.cons rfl (fun K hK => ?_) AllReadyH.nil)
        clear hHeld
        rw [if_pos (by kernel_rfl)]
        have EW := (HRBL.out _ L).e
        have c2 := EW.own.at_ 2 _ rfl
        have f2 := EW.own.free 2
        have FIN := Lib.hid (HFINAL.out _ az cz L ROWZ)
        have MF : MgB (U4.setCell ⟨e0, 2, none⟩ (.slice az nl cz)) (e0 + 1) ⟨f, (q : Int), s, v, a, dl, dc, deps, text⟩ := Own.set_other (HMBL.out _ L) _ _ _ (by omega)
        go_simp
        refine hK.out _ _ MF (fun hHeld => ?_)
        clear hK K hHeld MF EW c2 f2 L ROWZ
        (try simp only [Act.put, List.setIfInBounds_toArray, List.set_cons_zero, List.set_cons_succ])
        refine wpAnyH_done (by kernel_rfl) ?_ _
        go_wp2_with fail
        go_meet
        exact ⟨az, cz, FIN.out⟩
    · clear hHeld
      rw [if_pos (by kernel_rfl)]
      go_simp
      have hh := HSZ0.out _ L
      have X : LikeAt (V0.alloc (.cells #[.int .i64 f, .int .u32 (q : Int), .int .u64 s, .int .i64 v, .slice a dl dc, .string text] 37)) (newB B) (some ⟨V0.heap.size, 0, none⟩) [⟨f, (q : Int), s, v, a, dl, dc, deps, text⟩] := (out_one (MgB.new V0 ⟨f, (q : Int), s, v, a, dl, dc, deps, text⟩) (Like.refl _) (HDM.out _ (L.alloc hh (.cells #[.int .i64 f, .int .u32 (q : Int), .int .u64 s, .int .i64 v, .slice a dl dc, .string text] 37)))).like
      have hxl : V0.heap.size < (V0.alloc (.cells #[.int .i64 f, .int .u32 (q : Int), .int .u64 s, .int .i64 v, .slice a dl dc, .string text] 37)).heap.size := by simp
      have L := L.alloc hh (.cells #[.int .i64 f, .int .u32 (q : Int), .int .u64 s, .int .i64 v, .slice a dl dc, .string text] 37)
      generalize (V0.alloc (.cells #[.int .i64 f, .int .u32 (q : Int), .int .u64 s, .int .i64 v, .slice a dl dc, .string text] 37)) = U0 at *
      generalize V0.heap.size = xb at *
      refine hK.out _ _ (HMBL.out _ L) (fun hHeld => ?_)
      clear hK K
      (try simp only [Act.put, List.setIfInBounds_toArray, List.set_cons_zero, List.set_cons_succ])
      refine wpAnyH_ready (rs := [0, 2]) (by kernel_rfl) (by simp) (AllReadyH.cons rfl (fun K hK => ?_) (AllReadyH.cons rfl (fun K hK => ?_) AllReadyH.nil))
      · clear hHeld
        rw [if_pos (by kernel_rfl)]
        go_simp
        have hh := HSZ0.out _ L
        have ROW := (out_made U0 (newB B)).base_le hh
        have L := L.alloc hh (.cells #[] 37)
        have X := X.below ((Grw.refl U0).alloc (.cells #[] 37)).below
        have hxn : xb ≠ U0.heap.size := by omega
        generalize (U0.alloc (.cells #[] 37)) = U1 at *
        generalize U0.heap.size = nb at *
        refine hK.out _ _ (HMBL.out _ L) (fun hHeld => ?_)
        clear hK K
        (try simp only [Act.put, List.setIfInBounds_toArray, List.set_cons_zero, List.set_cons_succ])
        refine wpAnyH_ready (rs := [2]) (by kernel_rfl) (by simp) (AllReadyH.cons rfl (fun K hK => ?_) AllReadyH.nil)
        clear hHeld
        rw [if_pos (by kernel_rfl)]
        have EW := (HRBL.out _ L).e
        have c2 := EW.own.at_ 2 _ rfl
        go_simp
        clear c2 EW
        refine hK.out _ _ (HMBL.out _ L) (fun hHeld => ?_)
        clear hK K
        (try simp only [Act.put, List.setIfInBounds_toArray, List.set_cons_zero, List.set_cons_succ])
        refine wpAnyH_ready (rs := [3]) (by kernel_rfl) (by simp) (AllReadyH.cons rfl (fun K hK => ?_) AllReadyH.nil)
        clear hHeld
        rw [if_pos (by kernel_rfl)]
        refine wp_append_like U1 (.tmp 37) (.tmp 39) rfl (newB B) h0 (some ⟨nb, 0, none⟩) 0 [] rfl ROW ho hc S.held rfl HC.out.1 (HLL.out _ L) (fun x e => by have := ROW.place x e; show B ≤ x.block; omega) (by have := HI.out.few; simp; omega) (HSZ0.out _ L) ?_
        intro aa ca U3 ROWA GA LA
        have hnbp := (ROW.place _ rfl).1
        have L := L.grown GA (HSZ0.out _ L) (fun k hk => by obtain ⟨x, e, rfl⟩ := own_of_slice hk; exact (ROW.place x e).1)
        have ROWA := ROWA.less (F' := newB B) (fun k hk => .inl hk)
        rw [List.nil_append] at ROWA ⊢
        have X := X.grown_off GA (fun k hk => by obtain ⟨x, e, rfl⟩ := own_of_slice hk; cases e; exact ⟨hxn, by simp at hnbp; show B ≤ nb; omega⟩)
        clear GA LA ROW hnbp
        refine hK.out _ _ (HMBL.out _ L) (fun hHeld => ?_)
        clear hK K
        (try simp only [Act.put, List.setIfInBounds_toArray, List.set_cons_zero, List.set_cons_succ])
        refine wpAnyH_ready (rs := [6]) (by kernel_rfl) (by simp) (AllReadyH.cons rfl (fun K hK => ?_) AllReadyH.nil)
        clear hHeld
        rw [if_pos (by kernel_rfl)]
        refine wp_append_like U3 (.tmp 40) (.tmp 42) rfl (newB B) h0 aa ca S.held rfl ROWA (some ⟨xb, 0, none⟩) 1 [⟨f, (q : Int), s, v, a, dl, dc, deps, text⟩] rfl (fun e => by cases e) X (fun x e => by have := ROWA.place x e; show B ≤ x.block; omega) (by have := HI.out.few; simp; omega) (HSZ0.out _ L) ?_
        intro az cz U4 ROWZ GA LA
        have L := L.grown GA (HSZ0.out _ L) (fun k hk => by obtain ⟨x, e, rfl⟩ := own_of_slice hk; exact (ROWA.place x e).1)
        have ROWZ := ROWZ.less (F' := newB B) (fun k hk => .inl hk)
        clear GA LA ROWA X
        rw [HNL.out]
        refine hK.out _ _ (HMBL.out _ L) (fun hHeld => ?_)
        clear hK K
        (try simp only [Act.put, List.setIfInBounds_toArray, List.set_cons_zero, List.set_cons_succ])
        refine stake (i := 7) (v := (.pointer (some ⟨e0, 2, none⟩))) 44 rfl (by kernel_rfl) (by kernel_rfl) (by kernel_rfl) (by kernel_rfl) (fun _ _ _ h => h) (.inl ⟨by kernel_rfl, fun w' hS => by (go_simp)⟩) hHeld ?_
        (try simp only [Act.put, List.setIfInBounds_toArray, List.set_cons_zero, List.set_cons_succ])
        refine wpAnyH_ready (rs := [8]) (by kernel_rfl) (by simp) (AllReadyH.cons rfl (fun K hK => ?_) AllReadyH.nil)
        clear hHeld
        rw [if_pos (by kernel_rfl)]
        have EW := (HRBL.out _ L).e
        have c2 := EW.own.at_ 2 _ rfl
        have f2 := EW.own.free 2
        have FIN := Lib.hid (HFINAL.out _ az cz L ROWZ)
        have MF : MgB (U4.setCell ⟨e0, 2, none⟩ (.slice az nl cz)) (e0 + 1) ⟨f, (q : Int), s, v, a, dl, dc, deps, text⟩ := Own.set_other (HMBL.out _ L) _ _ _ (by omega)
        go_simp
        refine hK.out _ _ MF (fun hHeld => ?_)
        clear hK K hHeld MF EW c2 f2 L ROWZ
        (try simp only [Act.put, List.setIfInBounds_toArray, List.set_cons_zero, List.set_cons_succ])
        refine wpAnyH_done (by kernel_rfl) ?_ _
        go_wp2_with fail
        go_meet
        exact ⟨az, cz, FIN.out⟩
      · clear hHeld
        rw [if_pos (by kernel_rfl)]
        have EW := (HRBL.out _ L).e
        have c2 := EW.own.at_ 2 _ rfl
        go_simp
        clear c2 EW
        refine hK.out _ _ (HMBL.out _ L) (fun hHeld => ?_)
        clear hK K
        (try simp only [Act.put, List.setIfInBounds_toArray, List.set_cons_zero, List.set_cons_succ])
        refine wpAnyH_ready (rs := [0]) (by kernel_rfl) (by simp) (AllReadyH.cons rfl (fun K hK => ?_) AllReadyH.nil)
        clear hHeld
        rw [if_pos (by kernel_rfl)]
        go_simp
        have hh := HSZ0.out _ L
        have ROW := (out_made U0 (newB B)).base_le hh
        have L := L.alloc hh (.cells #[] 37)
        have X := X.below ((Grw.refl U0).alloc (.cells #[] 37)).below
        have hxn : xb ≠ U0.heap.size := by omega
        generalize (U0.alloc (.cells #[] 37)) = U2 at *
        generalize U0.heap.size = nb at *
        refine hK.out _ _ (HMBL.out _ L) (fun hHeld => ?_)
        clear hK K
        (try simp only [Act.put, List.setIfInBounds_toArray, List.set_cons_zero, List.set_cons_succ])
        refine wpAnyH_ready (rs := [3]) (by kernel_rfl) (by simp) (AllReadyH.cons rfl (fun K hK => ?_) AllReadyH.nil)
        clear hHeld
        rw [if_pos (by kernel_rfl)]
        refine wp_append_like U2 (.tmp 37) (.tmp 39) rfl (newB B) h0 (some ⟨nb, 0, none⟩) 0 [] rfl ROW ho hc S.held rfl HC.out.1 (HLL.out _ L) (fun x e => by have := ROW.place x e; show B ≤ x.block; omega) (by have := HI.out.few; simp; omega) (HSZ0.out _ L) ?_
        intro aa ca U3 ROWA GA LA
        have hnbp := (ROW.place _ rfl).1
        have L := L.grown GA (HSZ0.out _ L) (fun k hk => by obtain ⟨x, e, rfl⟩ := own_of_slice hk; exact (ROW.place x e).1)
        have ROWA := ROWA.less (F' := newB B) (fun k hk => .inl hk)
        rw [List.nil_append] at ROWA ⊢
        have X := X.grown_off GA (fun k hk => by obtain ⟨x, e, rfl⟩ := own_of_slice hk; cases e; exact ⟨hxn, by simp at hnbp; show B ≤ nb; omega⟩)
        clear GA LA ROW hnbp
        refine hK.out _ _ (HMBL.out _ L) (fun hHeld => ?_)
        clear hK K
        (try simp only [Act.put, List.setIfInBounds_toArray, List.set_cons_zero, List.set_cons_succ])
        refine wpAnyH_ready (rs := [6]) (by kernel_rfl) (by simp) (AllReadyH.cons rfl (fun K hK => ?_) AllReadyH.nil)
        clear hHeld
        rw [if_pos (by kernel_rfl)]
        refine wp_append_like U3 (.tmp 40) (.tmp 42) rfl (newB B) h0 aa ca S.held rfl ROWA (some ⟨xb, 0, none⟩) 1 [⟨f, (q : Int), s, v, a, dl, dc, deps, text⟩] rfl (fun e => by cases e) X (fun x e => by have := ROWA.place x e; show B ≤ x.block; omega) (by have := HI.out.few; simp; omega) (HSZ0.out _ L) ?_
        intro az cz U4 ROWZ GA LA
        have L := L.grown GA (HSZ0.out _ L) (fun k hk => by obtain ⟨x, e, rfl⟩ := own_of_slice hk; exact (ROWA.place x e).1)
        have ROWZ := ROWZ.less (F' := newB B) (fun k hk => .inl hk)
        clear GA LA ROWA X
        rw [HNL.out]
        refine hK.out _ _ (HMBL.out _ L) (fun hHeld => ?_)
        clear hK K
        (try simp only [Act.put, List.setIfInBounds_toArray, List.set_cons_zero, List.set_cons_succ])
        refine stake (i := 7) (v := (.pointer (some ⟨e0, 2, none⟩))) 44 rfl (by kernel_rfl) (by kernel_rfl) (by kernel_rfl) (by kernel_rfl) (fun _ _ _ h => h) (.inl ⟨by kernel_rfl, fun w' hS => by (go_simp)⟩) hHeld ?_
        (try simp only [Act.put, List.setIfInBounds_toArray, List.set_cons_zero, List.set_cons_succ])
        refine wpAnyH_ready (rs := [8]) (by kernel_rfl) (by simp) (AllReadyH.cons rfl (fun K hK => ?_) AllReadyH.nil)
        clear hHeld
        rw [if_pos (by kernel_rfl)]
        have EW := (HRBL.out _ L).e
        have c2 := EW.own.at_ 2 _ rfl
        have f2 := EW.own.free 2
        have FIN := Lib.hid (HFINAL.out _ az cz L ROWZ)
        have MF : MgB (U4.setCell ⟨e0, 2, none⟩ (.slice az nl cz)) (e0 + 1) ⟨f, (q : Int), s, v, a, dl, dc, deps, text⟩ := Own.set_other (HMBL.out _ L) _ _ _ (by omega)
        go_simp
        refine hK.out _ _ MF (fun hHeld => ?_)
        clear hK K hHeld MF EW c2 f2 L ROWZ
        (try simp only [Act.put, List.setIfInBounds_toArray, List.set_cons_zero, List.set_cons_succ])
        refine wpAnyH_done (by kernel_rfl) ?_ _
        go_wp2_with fail
        go_meet
        exact ⟨az, cz, FIN.out⟩
  case rest =>
    obtain ⟨az, cz, hst⟩ := hcut
    have HST := Lib.hid hst
    clear hst
    obtain ⟨r, hr⟩ : ∃ r, r = drawnS sqG S ⟨f, (q : Int), s, v, a, dl, dc, deps, text⟩ := ⟨_, rfl⟩
    have HRD : Hid (S'.size = S.size ∧ S'.count = r.1 ∧ S'.held = r.2.1 ∧ out = r.2.2) := Lib.hid (by
      obtain ⟨h1, h2, h3⟩ := HFIN.out
      rw [← h1, ← h2]
      unfold takeS outS
      rw [if_pos h3, if_pos h3, hr]
      exact ⟨rfl, rfl, rfl, rfl⟩)
    have HRW : Hid (drainS sqG (S.held ++ ([⟨f, (q : Int), s, v, a, dl, dc, deps, text⟩] : List Mg)).length c (S.held ++ ([⟨f, (q : Int), s, v, a, dl, dc, deps, text⟩] : List Mg)) = r) := Lib.hid (by rw [hr, HCS.out]; unfold drawnS; simp)
    have HFT2 : Hid (Fits (S.held ++ ([⟨f, (q : Int), s, v, a, dl, dc, deps, text⟩] : List Mg))) := Lib.hid (by
      intro x hx
      rcases List.mem_append.1 hx with hx | hx
      · exact HFT.out x hx
      · rw [List.mem_singleton.1 hx]; exact ⟨by show (0 : Int) ≤ (q : Int); omega, by show (q : Int) < 4294967296; omega⟩)
    obtain ⟨L0, hL0⟩ : ∃ L0, L0 = S.held ++ ([⟨f, (q : Int), s, v, a, dl, dc, deps, text⟩] : List Mg) := ⟨_, rfl⟩
    have hn64 : L0.length ≤ 64 := by have := HI.out.few; rw [hL0]; simp; omega
    rw [← hL0] at HST HRW HFT2
    obtain ⟨n0, hn0⟩ : ∃ n0, n0 = L0.length := ⟨_, rfl⟩
    rw [← hn0] at hn64
    have HN0 := Lib.hid hn0
    clear hL0 hn0 hr HFIN HL HD HC HI HFT HFA HII hzv hB hq0 hqc
    go_wp2_with fail
    go_loopw [7, 8] (fun so _ wr => ∃ (c1 : Nat) (H : List Mg) (out1 : List Mg) (ho1 : Option Addr) (hc1 : Nat) (oo : Option Addr) (oc : Nat), so = .slice oo out1.length oc ∧ RlSt w wr e0 B sz c1 H ho1 hc1 out1 oo oc ∧ Hid ((drainS sqG H.length c1 H).1 = r.1 ∧ (drainS sqG H.length c1 H).2.1 = r.2.1 ∧ out1 ++ (drainS sqG H.length c1 H).2.2 = r.2.2) ∧ Hid (Fits H) ∧ out1.length + H.length = n0 ∧ c1 ≤ c + out1.length) (fun so _ _ => n0 - lenOf so)
    case atStart => exact ⟨c, L0, [], az, cz, none, 0, rfl, HST.out, Lib.hid (by rw [HRW.out]; exact ⟨rfl, rfl, rfl⟩), HFT2, by rw [HN0.out]; simp, by simp⟩
    case round =>
      clear HST HRW HFT2
      obtain ⟨c1, H, out1, ho1, hc1, oo, oc, rfl, hst, HDR, HFH, hsum, hcle⟩ := hrel
      have HST := Lib.hid hst
      have E1 := hst.base.e
      have HFI := rfind hst.held.like HFH.out (by omega) sz (c1 : Int) hc1 (c1 + 1) (by omega)
      obtain ⟨d, hd⟩ : ∃ d : Nat, d = c1 + 1 := ⟨_, rfl⟩
      have hde : (c1 : Int) + 1 = (d : Int) := by omega
      have hd4 : (d : Int) ≤ 4294967295 := by omega
      rw [← hd] at HFI
      have HDD := Lib.hid hd
      have v1 := E1.own.at_ 1 _ rfl
      clear hst hd
      cases hix : idxS H d with
      | none =>
        have hI1 : idxI H d = -1 := by unfold idxI; rw [hix]
        rw [hI1] at HFI
        have HIX := Lib.hid hix
        clear hI1 hix
        have HEND : Hid (∀ V, Grw wr V → RTook w B S' out 0 (.returned (.tuple #[.agg #[.int .i64 sz, .int .u32 (c1 : Int), .slice ho1 H.length hc1], .slice oo out1.length oc, .int .i64 0])) (V.setRow (e0 + 2) #[.int .i64 sz, .int .u32 (c1 : Int), .slice ho1 H.length hc1]) ∧ RsB V e0 sz c1 (.slice ho1 H.length hc1) ∧ RsB V (e0 + 2) 0 0 (.slice none 0 0)) := Lib.hid fun V hG => by
          have hg : getS sqG H (c1 + 1) = none := by rw [← HDD.out]; exact idxS_none.1 HIX.out
          obtain ⟨d1, d2, d3⟩ := HDR.out
          rw [drainS_none sqG _ _ _ hg] at d1 d2 d3
          simp only [List.append_nil] at d1 d2 d3
          obtain ⟨r1, r2, r3, r4⟩ := HRD.out
          have hst2 := HST.out.later hG.below
          have hs1 : sz = (S'.size : Int) := by rw [r1]; exact HSZ.out
          refine ⟨?_, hst2.base.e, hst2.base.r⟩
          rw [r4, ← d3, ← HE0.out]
          rw [← HE0.out] at hst2
          rw [hs1] at hst2 ⊢
          exact hst2.done (by rw [r2, ← d1]) (by rw [r3, ← d2])
        clear HST HDR HFH HDD HIX HRD HSZ HCS HN0 hsum hcle
        go_wp2_with (first
          | (refine load_rs rfl (.tmp 2) rfl e0 rfl E1 ?_)
          | (go_at_call 23; refine HFI.mono ?_; rintro e w1 ⟨rfl, G1⟩; have HV := Lib.hid (HEND.out w1 G1); have E2 := HV.out.2.1; have R2 := HV.out.2.2)
          | (refine load_rs rfl (.tmp 2) rfl e0 rfl E2 ?_)
          | (refine store_rs rfl (.tmp 4) (.tmp 52) rfl (e0 + 2) sz c1 ho1 H.length hc1 rfl rfl R2 ?_))
        (try simp only [Exit.inBlock, Exit.then])
        exact bodyPost_ret (results_rs3 (p := 4) (u := 5) (u2 := 6) rfl _ _ (e0 + 2) rfl (R2.put sz c1 (.slice ho1 H.length hc1))) rfl HV.out.1
      | some i =>
        obtain ⟨m2, hm2, hs2, hg2, hdr2⟩ := idxS_some hix
        have hI1 : idxI H d = (i : Int) := by unfold idxI; rw [hix]
        rw [hI1] at HFI
        have hin := (List.getElem?_eq_some_iff.1 hm2).1
        obtain ⟨nH, hnH⟩ : ∃ nH, nH = H.length := ⟨_, rfl⟩
        have HNH := Lib.hid hnH
        have hin2 : i < nH := by omega
        have hHI : ¬ (i : Int) < 0 := by omega
        have hsn : out1.length + nH = n0 := by omega
        have HSU := Lib.hid hsum
        rw [← hnH] at E1 HFI
        have HM2 := Lib.hid (show H[i]? = some m2 ∧ getS sqG H d = some m2 ∧ dropS sqG H d = H.take i ++ H.drop (i + 1) from ⟨hm2, hg2, hdr2⟩)
        have hlc : nH ≤ hc1 := by have := HST.out.lens; omega
        clear hI1 hix hm2 hg2 hdr2 hs2 hin hnH hsum
        go_upto_region 12 with (first
          | (refine load_rs rfl (.tmp 2) rfl e0 rfl E1 ?_)
          | (go_at_call 23; refine HFI.mono ?_; rintro e w1 ⟨rfl, G1⟩))
        have HST1 := Lib.hid (HST.out.later G1.below)
        clear HST HFI E1 G1 v1
        obtain ⟨ka, x, hka, hkl, hlx, hdx, hcx⟩ := HST1.out.held.elem HM2.out.1
        subst hka
        have E2 := HST1.out.base.e
        rw [← HNH.out] at E2
        have v2 := E2.own.at_ 2 _ rfl
        have y0 := hcx 0 _ rfl
        have y1 := hcx 1 _ rfl
        have y2 := hcx 2 _ rfl
        have y3 := hcx 3 _ rfl
        have y4 := hcx 4 _ rfl
        have y5 := hcx 5 _ rfl
        simp only [Nat.add_zero] at y0
        have GX : Grw w1 (w1.alloc (.cells #[.int .i64 x.f, .int .u32 x.q, .int .u64 x.s, .int .i64 x.v, .slice x.a x.dl x.dc, .string x.text] 37)) := (Grw.refl w1).alloc _
        have HX := Lib.hid (show LikeAt (w1.alloc (.cells #[.int .i64 x.f, .int .u32 x.q, .int .u64 x.s, .int .i64 x.v, .slice x.a x.dl x.dc, .string x.text] 37)) (newB B) (some ⟨w1.heap.size, 0, none⟩) [m2] from (out_one (MgB.new w1 x) hlx (hdx.kept fun k hk _ => GX.below.block k hk)).like)
        have HST2 := Lib.hid (HST1.out.later GX.below)
        clear hlx hdx hcx GX HST1 E2
        go_upto_region 13 with (at_builtin; refine append_like _ rfl (.tmp 54) (.tmp 60) rfl (newB B) (e0 + 3) oo oc out1 rfl HST2.out.base.out (some ⟨w1.heap.size, 0, none⟩) 1 [m2] rfl (fun e => by cases e) HX.out (fun x e => by have := HST2.out.base.out.place x e; show B ≤ x.block; omega) (by simp; omega) HST2.out.base.z ?_; intro oo2 oc2 w5 O5 G5 LC5; have HST5 := Lib.hid (HST2.out.push O5 G5 LC5); clear O5 G5 LC5)
        clear HST2 HX v2 y0 y1 y2 y3 y4 y5
        obtain ⟨d2, hd2⟩ : ∃ d2 : Nat, d2 = i + 1 := ⟨_, rfl⟩
        have hd2e : (i : Int) + 1 = (d2 : Int) := by omega
        have hd2n : d2 ≤ nH := by omega
        have HD2 := Lib.hid hd2
        have HTI : Hid ((H.take i).length = i ∧ (H.drop d2).length = nH - d2 ∧ (H.take i ++ H.drop d2).length = nH - 1) := Lib.hid (by
          have := HNH.out
          refine ⟨by rw [List.length_take]; omega, by rw [List.length_drop]; omega, by rw [List.length_append, List.length_take, List.length_drop]; omega⟩)
        clear hd2 hin2
        go_cut [74] from 45 to 78 (fun _ wx => ∃ (az : Option Addr) (cz : Nat), RlSt w wx e0 B sz c1 (H.take i ++ H.drop d2) az cz (out1 ++ [m2]) oo2 oc2)
        case first =>
          have HWD : Hid (IntKind.i64.wrap (d2 : Int) = d2) := Lib.hid (by rw [IntKind.wrap_i64]; omega)
          have hid2 : i < d2 := by have := HD2.out; omega
          refine wp_region_held_drew (S := fun _ => True) (by kernel_rfl) trivial (fun hHeld => ?_)
          have HST6 := Lib.hid (HST5.out.later (Grw.refl w5).drew.below)
          clear HST5
          generalize w5.drew = V0 at *
          have HSZ0 : Hid (∀ W, Below V0.heap.size V0 W → V0.heap.size ≤ W.heap.size) := Lib.hid fun W hb => hb.size
          have HRBL : Hid (∀ W, Below V0.heap.size V0 W → RlB w W e0 B sz c1 (.slice (some ⟨ka, 0, none⟩) nH hc1) (out1 ++ [m2]) oo2 oc2) := Lib.hid fun W hb => by
            have := (HST6.out.later hb).base
            rw [← HNH.out] at this
            exact this
          have HLL : Hid (∀ W, Below V0.heap.size V0 W → LikeAt W (newB B) (some ⟨ka, 0, none⟩) (H.take i) ∧ True) := Lib.hid fun W hb => ⟨(HST6.out.later hb).held.like.take (by have := HNH.out; omega), trivial⟩
          obtain ⟨X, hX⟩ : ∃ X : Addr, X = if hc1 = d2 then (⟨ka, 0, none⟩ : Addr) else (⟨ka, 0, none⟩ : Addr).add (d2 * 6) := ⟨_, rfl⟩
          have HXE := Lib.hid hX
          clear hX
          have HLX : Hid (∀ W, Below V0.heap.size V0 W → LikeAt W (newB B) (some X) (H.drop d2)) := Lib.hid fun W hb => by
            have := (HST6.out.later hb).held.like.drop (cap := hc1) (by have := HNH.out; omega) (d := d2) (by have := HNH.out; omega)
            rw [HXE.out]
            exact this
          have HFINAL : Hid (∀ W az cz, Below V0.heap.size V0 W → OutAt W (newB B) V0.heap.size az cz (H.take i ++ H.drop d2) → RlSt w (W.setCell ⟨e0, 2, none⟩ (.slice az (nH - 1) cz)) e0 B sz c1 (H.take i ++ H.drop d2) az cz (out1 ++ [m2]) oo2 oc2) := Lib.hid fun W az cz hb hz => by
            have := HST6.out.base.final hb hz
            rw [HTI.out.2.2] at this
            exact this
          have hz6 := HST6.out.base.z
          have hb6 := HST6.out.base.b
          have hBh : B ≤ V0.heap.size := by omega
          have L : Below V0.heap.size V0 V0 := Below.refl _ _
          clear HST6 hz6 hb6
          generalize V0.heap.size = h0 at *
          refine stake (i := 1) (v := (.pointer (some ⟨e0, 2, none⟩))) 63 rfl (by kernel_rfl) (by kernel_rfl) (by kernel_rfl) (by kernel_rfl) (fun _ _ _ h => h) (.inl ⟨by kernel_rfl, fun w' hS => by (go_simp)⟩) hHeld ?_
          (try simp only [Act.put, List.setIfInBounds_toArray, List.set_cons_zero, List.set_cons_succ])
          refine stake (i := 3) (v := (.int .i64 (i : Int))) 65 rfl (by kernel_rfl) (by kernel_rfl) (by kernel_rfl) (by kernel_rfl) (fun _ _ _ h => h) (.inl ⟨by kernel_rfl, fun w' hS => by (go_simp)⟩) hHeld ?_
          (try simp only [Act.put, List.setIfInBounds_toArray, List.set_cons_zero, List.set_cons_succ])
          refine stake (i := 6) (v := (.pointer (some ⟨e0, 2, none⟩))) 68 rfl (by kernel_rfl) (by kernel_rfl) (by kernel_rfl) (by kernel_rfl) (fun _ _ _ h => h) (.inl ⟨by kernel_rfl, fun w' hS => by (go_simp)⟩) hHeld ?_
          (try simp only [Act.put, List.setIfInBounds_toArray, List.set_cons_zero, List.set_cons_succ])
          refine stake (i := 8) (v := (.int .i64 (i : Int))) 70 rfl (by kernel_rfl) (by kernel_rfl) (by kernel_rfl) (by kernel_rfl) (fun _ _ _ h => h) (.inl ⟨by kernel_rfl, fun w' hS => by (go_simp)⟩) hHeld ?_
          (try simp only [Act.put, List.setIfInBounds_toArray, List.set_cons_zero, List.set_cons_succ])
          refine stake (i := 9) (v := (.int .i64 (d2 : Int))) 71 rfl (by kernel_rfl) (by kernel_rfl) (by kernel_rfl) (by kernel_rfl) (fun _ _ _ h => h) (.inl ⟨by kernel_rfl, fun w' hS => by (have hwd := HWD.out; go_simp)⟩) hHeld ?_
          (try simp only [Act.put, List.setIfInBounds_toArray, List.set_cons_zero, List.set_cons_succ])
          refine wpAnyH_ready (rs := [0, 2, 7]) (by kernel_rfl) (by simp) (AllReadyH.cons rfl (fun K hK => ?_) (AllReadyH.cons rfl (fun K hK => ?_) (AllReadyH.cons rfl (fun K hK => ?_) AllReadyH.nil)))
          · clear hHeld
            rw [if_pos (by kernel_rfl)]
            go_simp
            have hh := HSZ0.out _ L
            have ROW := (out_made V0 (newB B)).base_le hh
            have L := L.alloc hh (.cells #[] 37)
            generalize (V0.alloc (.cells #[] 37)) = U0 at *
            generalize V0.heap.size = nb at *
            refine hK.out _ _ trivial (fun hHeld => ?_)
            clear hK K
            (try simp only [Act.put, List.setIfInBounds_toArray, List.set_cons_zero, List.set_cons_succ])
            refine wpAnyH_ready (rs := [2, 7]) (by kernel_rfl) (by simp) (AllReadyH.cons rfl (fun K hK => ?_) (AllReadyH.cons rfl (fun K hK => ?_) AllReadyH.nil))
            · clear hHeld
              rw [if_pos (by kernel_rfl)]
              have EW := (HRBL.out _ L).e
              have c2 := EW.own.at_ 2 _ rfl
              go_simp
              clear c2 EW
              refine hK.out _ _ trivial (fun hHeld => ?_)
              clear hK K
              (try simp only [Act.put, List.setIfInBounds_toArray, List.set_cons_zero, List.set_cons_succ])
              refine stake (i := 4) (v := (.slice (some ⟨ka, 0, none⟩) i hc1)) 66 rfl (by kernel_rfl) (by kernel_rfl) (by kernel_rfl) (by kernel_rfl) (fun _ _ _ h => h) (yields_ms_h (by kernel_rfl) (.tmp 64) (.tmp 65) rfl ⟨ka, 0, none⟩ nH hc1 i (by kernel_rfl) (by kernel_rfl) (by omega) (by omega)) hHeld ?_
              (try simp only [Act.put, List.setIfInBounds_toArray, List.set_cons_zero, List.set_cons_succ])
              refine wpAnyH_ready (rs := [5, 7]) (by kernel_rfl) (by simp) (AllReadyH.cons rfl (fun K hK => ?_) (AllReadyH.cons rfl (fun K hK => ?_) AllReadyH.nil))
              · clear hHeld
                rw [if_pos (by kernel_rfl)]
                refine wp_append_like U0 (.tmp 62) (.tmp 66) rfl (newB B) h0 (some ⟨nb, 0, none⟩) 0 [] rfl ROW (some ⟨ka, 0, none⟩) hc1 (H.take i) (by rw [HTI.out.1]; rfl) (fun e => by cases e) (HLL.out _ L).1 (fun x e => by have := ROW.place x e; show B ≤ x.block; omega) (by have := HTI.out.1; simp at this ⊢; omega) (HSZ0.out _ L) ?_
                intro aa ca U2 ROWA GA LA
                have L := L.grown GA (HSZ0.out _ L) (fun k hk => by obtain ⟨x, e, rfl⟩ := own_of_slice hk; exact (ROW.place x e).1)
                have ROWA := ROWA.less (F' := newB B) (fun k hk => .inl hk)
                rw [List.nil_append] at ROWA ⊢
                rw [HTI.out.1]
                clear GA LA ROW
                refine hK.out _ _ trivial (fun hHeld => ?_)
                clear hK K
                (try simp only [Act.put, List.setIfInBounds_toArray, List.set_cons_zero, List.set_cons_succ])
                refine wpAnyH_ready (rs := [7]) (by kernel_rfl) (by simp) (AllReadyH.cons rfl (fun K hK => ?_) AllReadyH.nil)
                clear hHeld
                rw [if_pos (by kernel_rfl)]
                have EW := (HRBL.out _ L).e
                have c2 := EW.own.at_ 2 _ rfl
                go_simp
                clear c2 EW
                refine hK.out _ _ trivial (fun hHeld => ?_)
                clear hK K
                (try simp only [Act.put, List.setIfInBounds_toArray, List.set_cons_zero, List.set_cons_succ])
                refine stake (i := 10) (v := (.slice (some X) (nH - d2) (hc1 - d2))) 72 rfl (by kernel_rfl) (by kernel_rfl) (by kernel_rfl) (by kernel_rfl) (fun _ _ _ h => h) (yields_ms_lx X HXE.out (by kernel_rfl) (.tmp 69) (.tmp 71) rfl ⟨ka, 0, none⟩ nH hc1 d2 (by kernel_rfl) (by kernel_rfl) (by omega)) hHeld ?_
                (try simp only [Act.put, List.setIfInBounds_toArray, List.set_cons_zero, List.set_cons_succ])
                refine wpAnyH_ready (rs := [11]) (by kernel_rfl) (by simp) (AllReadyH.cons rfl (fun K hK => ?_) AllReadyH.nil)
                clear hHeld
                rw [if_pos (by kernel_rfl)]
                refine wp_append_like U2 (.tmp 67) (.tmp 72) rfl (newB B) h0 aa ca (H.take i) (by rw [HTI.out.1]; rfl) ROWA _ (hc1 - d2) (H.drop d2) (by rw [HTI.out.2.1]; rfl) (fun e => by cases e) (HLX.out _ L) (fun x e => by have := ROWA.place x e; show B ≤ x.block; omega) (by rw [HTI.out.1, HTI.out.2.1]; omega) (HSZ0.out _ L) ?_
                intro az cz U4 ROWZ GA LA
                have L := L.grown GA (HSZ0.out _ L) (fun k hk => by obtain ⟨x, e, rfl⟩ := own_of_slice hk; exact (ROWA.place x e).1)
                have ROWZ := ROWZ.less (F' := newB B) (fun k hk => .inl hk)
                clear GA LA ROWA
                rw [HTI.out.2.2]
                refine hK.out _ _ trivial (fun hHeld => ?_)
                clear hK K
                (try simp only [Act.put, List.setIfInBounds_toArray, List.set_cons_zero, List.set_cons_succ])
                refine stake (i := 12) (v := (.pointer (some ⟨e0, 2, none⟩))) 74 rfl (by kernel_rfl) (by kernel_rfl) (by kernel_rfl) (by kernel_rfl) (fun _ _ _ h => h) (.inl ⟨by kernel_rfl, fun w' hS => by (go_simp)⟩) hHeld ?_
                (try simp only [Act.put, List.setIfInBounds_toArray, List.set_cons_zero, List.set_cons_succ])
                refine wpAnyH_ready (rs := [13]) (by kernel_rfl) (by simp) (AllReadyH.cons rfl (fun K hK => ?_) AllReadyH.nil)
                clear hHeld
                rw [if_pos (by kernel_rfl)]
                have EW := (HRBL.out _ L).e
                have c2 := EW.own.at_ 2 _ rfl
                have f2 := EW.own.free 2
                have FIN := Lib.hid (HFINAL.out _ az cz L ROWZ)
                go_simp
                refine hK.out _ _ trivial (fun hHeld => ?_)
                clear hK K hHeld EW c2 f2 L ROWZ
                (try simp only [Act.put, List.setIfInBounds_toArray, List.set_cons_zero, List.set_cons_succ])
                refine wpAnyH_done (by kernel_rfl) ?_ _
                go_wp2_with fail
                go_meet
                exact ⟨az, cz, FIN.out⟩
              · clear hHeld
                rw [if_pos (by kernel_rfl)]
                have EW := (HRBL.out _ L).e
                have c2 := EW.own.at_ 2 _ rfl
                go_simp
                clear c2 EW
                refine hK.out _ _ trivial (fun hHeld => ?_)
                clear hK K
                (try simp only [Act.put, List.setIfInBounds_toArray, List.set_cons_zero, List.set_cons_succ])
                refine stake (i := 10) (v := (.slice (some X) (nH - d2) (hc1 - d2))) 72 rfl (by kernel_rfl) (by kernel_rfl) (by kernel_rfl) (by kernel_rfl) (fun _ _ _ h => h) (yields_ms_lx X HXE.out (by kernel_rfl) (.tmp 69) (.tmp 71) rfl ⟨ka, 0, none⟩ nH hc1 d2 (by kernel_rfl) (by kernel_rfl) (by omega)) hHeld ?_
                (try simp only [Act.put, List.setIfInBounds_toArray, List.set_cons_zero, List.set_cons_succ])
                refine wpAnyH_ready (rs := [5]) (by kernel_rfl) (by simp) (AllReadyH.cons rfl (fun K hK => ?_) AllReadyH.nil)
                clear hHeld
                rw [if_pos (by kernel_rfl)]
                refine wp_append_like U0 (.tmp 62) (.tmp 66) rfl (newB B) h0 (some ⟨nb, 0, none⟩) 0 [] rfl ROW (some ⟨ka, 0, none⟩) hc1 (H.take i) (by rw [HTI.out.1]; rfl) (fun e => by cases e) (HLL.out _ L).1 (fun x e => by have := ROW.place x e; show B ≤ x.block; omega) (by have := HTI.out.1; simp at this ⊢; omega) (HSZ0.out _ L) ?_
                intro aa ca U3 ROWA GA LA
                have L := L.grown GA (HSZ0.out _ L) (fun k hk => by obtain ⟨x, e, rfl⟩ := own_of_slice hk; exact (ROW.place x e).1)
                have ROWA := ROWA.less (F' := newB B) (fun k hk => .inl hk)
                rw [List.nil_append] at ROWA ⊢
                rw [HTI.out.1]
                clear GA LA ROW
                refine hK.out _ _ trivial (fun hHeld => ?_)
                clear hK K
                (try simp only [Act.put, List.setIfInBounds_toArray, List.set_cons_zero, List.set_cons_succ])
                refine wpAnyH_ready (rs := [11]) (by kernel_rfl) (by simp) (AllReadyH.cons rfl (fun K hK => ?_) AllReadyH.nil)
                clear hHeld
                rw [if_pos (by kernel_rfl)]
                refine wp_append_like U3 (.tmp 67) (.tmp 72) rfl (newB B) h0 aa ca (H.take i) (by rw [HTI.out.1]; rfl) ROWA _ (hc1 - d2) (H.drop d2) (by rw [HTI.out.2.1]; rfl) (fun e => by cases e) (HLX.out _ L) (fun x e => by have := ROWA.place x e; show B ≤ x.block; omega) (by rw [HTI.out.1, HTI.out.2.1]; omega) (HSZ0.out _ L) ?_
                intro az cz U4 ROWZ GA LA
                have L := L.grown GA (HSZ0.out _ L) (fun k hk => by obtain ⟨x, e, rfl⟩ := own_of_slice hk; exact (ROWA.place x e).1)
                have ROWZ := ROWZ.less (F' := newB B) (fun k hk => .inl hk)
                clear GA LA ROWA
                rw [HTI.out.2.2]
                refine hK.out _ _ trivial (fun hHeld => ?_)
                clear hK K
                (try simp only [Act.put, List.setIfInBounds_toArray, List.set_cons_zero, List.set_cons_succ])
                refine stake (i := 12) (v := (.pointer (some ⟨e0, 2, none⟩))) 74 rfl (by kernel_rfl) (by kernel_rfl) (by kernel_rfl) (by kernel_rfl) (fun _ _ _ h => h) (.inl ⟨by kernel_rfl, fun w' hS => by (go_simp)⟩) hHeld ?_
                (try simp only [Act.put, List.setIfInBounds_toArray, List.set_cons_zero, List.set_cons_succ])
                refine wpAnyH_ready (rs := [13]) (by kernel_rfl) (by simp) (AllReadyH.cons rfl (fun K hK => ?_) AllReadyH.nil)
                clear hHeld
                rw [if_pos (by kernel_rfl)]
                have EW := (HRBL.out _ L).e
                have c2 := EW.own.at_ 2 _ rfl
                have f2 := EW.own.free 2
                have FIN := Lib.hid (HFINAL.out _ az cz L ROWZ)
                go_simp
                refine hK.out _ _ trivial (fun hHeld => ?_)
                clear hK K hHeld EW c2 f2 L ROWZ
                (try simp only [Act.put, List.setIfInBounds_toArray, List.set_cons_zero, List.set_cons_succ])
                refine wpAnyH_done (by kernel_rfl) ?_ _
                go_wp2_with fail
                go_meet
                exact ⟨az, cz, FIN.out⟩
            · clear hHeld
              rw [if_pos (by kernel_rfl)]
              have EW := (HRBL.out _ L).e
              have c2 := EW.own.at_ 2 _ rfl
              go_simp
              clear c2 EW
              refine hK.out _ _ trivial (fun hHeld => ?_)
              clear hK K
              (try simp only [Act.put, List.setIfInBounds_toArray, List.set_cons_zero, List.set_cons_succ])
              refine stake (i := 10) (v := (.slice (some X) (nH - d2) (hc1 - d2))) 72 rfl (by kernel_rfl) (by kernel_rfl) (by kernel_rfl) (by kernel_rfl) (fun _ _ _ h => h) (yields_ms_lx X HXE.out (by kernel_rfl) (.tmp 69) (.tmp 71) rfl ⟨ka, 0, none⟩ nH hc1 d2 (by kernel_rfl) (by kernel_rfl) (by omega)) hHeld ?_
              (try simp only [Act.put, List.setIfInBounds_toArray, List.set_cons_zero, List.set_cons_succ])
              refine wpAnyH_ready (rs := [2]) (by kernel_rfl) (by simp) (AllReadyH.cons rfl (fun K hK => ?_) AllReadyH.nil)
              clear hHeld
              rw [if_pos (by kernel_rfl)]
              have EW := (HRBL.out _ L).e
              have c2 := EW.own.at_ 2 _ rfl
              go_simp
              clear c2 EW
              refine hK.out _ _ trivial (fun hHeld => ?_)
              clear hK K
              (try simp only [Act.put, List.setIfInBounds_toArray, List.set_cons_zero, List.set_cons_succ])
              refine stake (i := 4) (v := (.slice (some ⟨ka, 0, none⟩) i hc1)) 66 rfl (by kernel_rfl) (by kernel_rfl) (by kernel_rfl) (by kernel_rfl) (fun _ _ _ h => h) (yields_ms_h (by kernel_rfl) (.tmp 64) (.tmp 65) rfl ⟨ka, 0, none⟩ nH hc1 i (by kernel_rfl) (by kernel_rfl) (by omega) (by omega)) hHeld ?_
              (try simp only [Act.put, List.setIfInBounds_toArray, List.set_cons_zero, List.set_cons_succ])
              refine wpAnyH_ready (rs := [5]) (by kernel_rfl) (by simp) (AllReadyH.cons rfl (fun K hK => ?_) AllReadyH.nil)
              clear hHeld
              rw [if_pos (by kernel_rfl)]
              refine wp_append_like U0 (.tmp 62) (.tmp 66) rfl (newB B) h0 (some ⟨nb, 0, none⟩) 0 [] rfl ROW (some ⟨ka, 0, none⟩) hc1 (H.take i) (by rw [HTI.out.1]; rfl) (fun e => by cases e) (HLL.out _ L).1 (fun x e => by have := ROW.place x e; show B ≤ x.block; omega) (by have := HTI.out.1; simp at this ⊢; omega) (HSZ0.out _ L) ?_
              intro aa ca U3 ROWA GA LA
              have L := L.grown GA (HSZ0.out _ L) (fun k hk => by obtain ⟨x, e, rfl⟩ := own_of_slice hk; exact (ROW.place x e).1)
              have ROWA := ROWA.less (F' := newB B) (fun k hk => .inl hk)
              rw [List.nil_append] at ROWA ⊢
              rw [HTI.out.1]
              clear GA LA ROW
              refine hK.out _ _ trivial (fun hHeld => ?_)
              clear hK K
              (try simp only [Act.put, List.setIfInBounds_toArray, List.set_cons_zero, List.set_cons_succ])
              refine wpAnyH_ready (rs := [11]) (by kernel_rfl) (by simp) (AllReadyH.cons rfl (fun K hK => ?_) AllReadyH.nil)
              clear hHeld
              rw [if_pos (by kernel_rfl)]
              refine wp_append_like U3 (.tmp 67) (.tmp 72) rfl (newB B) h0 aa ca (H.take i) (by rw [HTI.out.1]; rfl) ROWA _ (hc1 - d2) (H.drop d2) (by rw [HTI.out.2.1]; rfl) (fun e => by cases e) (HLX.out _ L) (fun x e => by have := ROWA.place x e; show B ≤ x.block; omega) (by rw [HTI.out.1, HTI.out.2.1]; omega) (HSZ0.out _ L) ?_
              intro az cz U4 ROWZ GA LA
              have L := L.grown GA (HSZ0.out _ L) (fun k hk => by obtain ⟨x, e, rfl⟩ := own_of_slice hk; exact (ROWA.place x e).1)
              have ROWZ := ROWZ.less (F' := newB B) (fun k hk => .inl hk)
              clear GA LA ROWA
              rw [HTI.out.2.2]
              refine hK.out _ _ trivial (fun hHeld => ?_)
              clear hK K
              (try simp only [Act.put, List.setIfInBounds_toArray, List.set_cons_zero, List.set_cons_succ])
              refine stake (i := 12) (v := (.pointer (some ⟨e0, 2, none⟩))) 74 rfl (by kernel_rfl) (by kernel_rfl) (by kernel_rfl) (by kernel_rfl) (fun _ _ _ h => h) (.inl ⟨by kernel_rfl, fun w' hS => by (go_simp)⟩) hHeld ?_
              (try simp only [Act.put, List.setIfInBounds_toArray, List.set_cons_zero, List.set_cons_succ])
              refine wpAnyH_ready (rs := [13]) (by kernel_rfl) (by simp) (AllReadyH.cons rfl (fun K hK => ?_) AllReadyH.nil)
              clear hHeld
              rw [if_pos (by kernel_rfl)]
              have EW := (HRBL.out _ L).e
              have c2 := EW.own.at_ 2 _ rfl
              have f2 := EW.own.free 2
              have FIN := Lib.hid (HFINAL.out _ az cz L ROWZ)
              go_simp
              refine hK.out _ _ trivial (fun hHeld => ?_)
              clear hK K hHeld EW c2 f2 L ROWZ
              (try simp only [Act.put, List.setIfInBounds_toArray, List.set_cons_zero, List.set_cons_succ])
              refine wpAnyH_done (by kernel_rfl) ?_ _
              go_wp2_with fail
              go_meet
              exact ⟨az, cz, FIN.out⟩
          · clear hHeld
            rw [if_pos (by kernel_rfl)]
            have EW := (HRBL.out _ L).e
            have c2 := EW.own.at_ 2 _ rfl
            go_simp
            clear c2 EW
            refine hK.out _ _ trivial (fun hHeld => ?_)
            clear hK K
            (try simp only [Act.put, List.setIfInBounds_toArray, List.set_cons_zero, List.set_cons_succ])
            refine stake (i := 4) (v := (.slice (some ⟨ka, 0, none⟩) i hc1)) 66 rfl (by kernel_rfl) (by kernel_rfl) (by kernel_rfl) (by kernel_rfl) (fun _ _ _ h => h) (yields_ms_h (by kernel_rfl) (.tmp 64) (.tmp 65) rfl ⟨ka, 0, none⟩ nH hc1 i (by kernel_rfl) (by kernel_rfl) (by omega) (by omega)) hHeld ?_
            (try simp only [Act.put, List.setIfInBounds_toArray, List.set_cons_zero, List.set_cons_succ])
            refine wpAnyH_ready (rs := [0, 7]) (by kernel_rfl) (by simp) (AllReadyH.cons rfl (fun K hK => ?_) (AllReadyH.cons rfl (fun K hK => ?_) AllReadyH.nil))
            · clear hHeld
              rw [if_pos (by kernel_rfl)]
              go_simp
              have hh := HSZ0.out _ L
              have ROW := (out_made V0 (newB B)).base_le hh
              have L := L.alloc hh (.cells #[] 37)
              generalize (V0.alloc (.cells #[] 37)) = U1 at *
              generalize V0.heap.size = nb at *
              refine hK.out _ _ trivial (fun hHeld => ?_)
              clear hK K
              (try simp only [Act.put, List.setIfInBounds_toArray, List.set_cons_zero, List.set_cons_succ])
              refine wpAnyH_ready (rs := [5, 7]) (by kernel_rfl) (by simp) (AllReadyH.cons rfl (fun K hK => ?_) (AllReadyH.cons rfl (fun K hK => ?_) AllReadyH.nil))
              · clear hHeld
                rw [if_pos (by kernel_rfl)]
                refine wp_append_like U1 (.tmp 62) (.tmp 66) rfl (newB B) h0 (some ⟨nb, 0, none⟩) 0 [] rfl ROW (some ⟨ka, 0, none⟩) hc1 (H.take i) (by rw [HTI.out.1]; rfl) (fun e => by cases e) (HLL.out _ L).1 (fun x e => by have := ROW.place x e; show B ≤ x.block; omega) (by have := HTI.out.1; simp at this ⊢; omega) (HSZ0.out _ L) ?_
                intro aa ca U2 ROWA GA LA
                have L := L.grown GA (HSZ0.out _ L) (fun k hk => by obtain ⟨x, e, rfl⟩ := own_of_slice hk; exact (ROW.place x e).1)
                have ROWA := ROWA.less (F' := newB B) (fun k hk => .inl hk)
                rw [List.nil_append] at ROWA ⊢
                rw [HTI.out.1]
                clear GA LA ROW
                refine hK.out _ _ trivial (fun hHeld => ?_)
                clear hK K
                (try simp only [Act.put, List.setIfInBounds_toArray, List.set_cons_zero, List.set_cons_succ])
                refine wpAnyH_ready (rs := [7]) (by kernel_rfl) (by simp) (AllReadyH.cons rfl (fun K hK => ?_) AllReadyH.nil)
                clear hHeld
                rw [if_pos (by kernel_rfl)]
                have EW := (HRBL.out _ L).e
                have c2 := EW.own.at_ 2 _ rfl
                go_simp
                clear c2 EW
                refine hK.out _ _ trivial (fun hHeld => ?_)
                clear hK K
                (try simp only [Act.put, List.setIfInBounds_toArray, List.set_cons_zero, List.set_cons_succ])
                refine stake (i := 10) (v := (.slice (some X) (nH - d2) (hc1 - d2))) 72 rfl (by kernel_rfl) (by kernel_rfl) (by kernel_rfl) (by kernel_rfl) (fun _ _ _ h => h) (yields_ms_lx X HXE.out (by kernel_rfl) (.tmp 69) (.tmp 71) rfl ⟨ka, 0, none⟩ nH hc1 d2 (by kernel_rfl) (by kernel_rfl) (by omega)) hHeld ?_
                (try simp only [Act.put, List.setIfInBounds_toArray, List.set_cons_zero, List.set_cons_succ])
                refine wpAnyH_ready (rs := [11]) (by kernel_rfl) (by simp) (AllReadyH.cons rfl (fun K hK => ?_) AllReadyH.nil)
                clear hHeld
                rw [if_pos (by kernel_rfl)]
                refine wp_append_like U2 (.tmp 67) (.tmp 72) rfl (newB B) h0 aa ca (H.take i) (by rw [HTI.out.1]; rfl) ROWA _ (hc1 - d2) (H.drop d2) (by rw [HTI.out.2.1]; rfl) (fun e => by cases e) (HLX.out _ L) (fun x e => by have := ROWA.place x e; show B ≤ x.block; omega) (by rw [HTI.out.1, HTI.out.2.1]; omega) (HSZ0.out _ L) ?_
                intro az cz U4 ROWZ GA LA
                have L := L.grown GA (HSZ0.out _ L) (fun k hk => by obtain ⟨x, e, rfl⟩ := own_of_slice hk; exact (ROWA.place x e).1)
                have ROWZ := ROWZ.less (F' := newB B) (fun k hk => .inl hk)
                clear GA LA ROWA
                rw [HTI.out.2.2]
                refine hK.out _ _ trivial (fun hHeld => ?_)
                clear hK K
                (try simp only [Act.put, List.setIfInBounds_toArray, List.set_cons_zero, List.set_cons_succ])
                refine stake (i := 12) (v := (.pointer (some ⟨e0, 2, none⟩))) 74 rfl (by kernel_rfl) (by kernel_rfl) (by kernel_rfl) (by kernel_rfl) (fun _ _ _ h => h) (.inl ⟨by kernel_rfl, fun w' hS => by (go_simp)⟩) hHeld ?_
                (try simp only [Act.put, List.setIfInBounds_toArray, List.set_cons_zero, List.set_cons_succ])
                refine wpAnyH_ready (rs := [13]) (by kernel_rfl) (by simp) (AllReadyH.cons rfl (fun K hK => ?_) AllReadyH.nil)
                clear hHeld
                rw [if_pos (by kernel_rfl)]
                have EW := (HRBL.out _ L).e
                have c2 := EW.own.at_ 2 _ rfl
                have f2 := EW.own.free 2
                have FIN := Lib.hid (HFINAL.out _ az cz L ROWZ)
                go_simp
                refine hK.out _ _ trivial (fun hHeld => ?_)
                clear hK K hHeld EW c2 f2 L ROWZ
                (try simp only [Act.put, List.setIfInBounds_toArray, List.set_cons_zero, List.set_cons_succ])
                refine wpAnyH_done (by kernel_rfl) ?_ _
                go_wp2_with fail
                go_meet
                exact ⟨az, cz, FIN.out⟩
              · clear hHeld
                rw [if_pos (by kernel_rfl)]
                have EW := (HRBL.out _ L).e
                have c2 := EW.own.at_ 2 _ rfl
                go_simp
                clear c2 EW
                refine hK.out _ _ trivial (fun hHeld => ?_)
                clear hK K
                (try simp only [Act.put, List.setIfInBounds_toArray, List.set_cons_zero, List.set_cons_succ])
                refine stake (i := 10) (v := (.slice (some X) (nH - d2) (hc1 - d2))) 72 rfl (by kernel_rfl) (by kernel_rfl) (by kernel_rfl) (by kernel_rfl) (fun _ _ _ h => h) (yields_ms_lx X HXE.out (by kernel_rfl) (.tmp 69) (.tmp 71) rfl ⟨ka, 0, none⟩ nH hc1 d2 (by kernel_rfl) (by kernel_rfl) (by omega)) hHeld ?_
                (try simp only [Act.put, List.setIfInBounds_toArray, List.set_cons_zero, List.set_cons_succ])
                refine wpAnyH_ready (rs := [5]) (by kernel_rfl) (by simp) (AllReadyH.cons rfl (fun K hK => ?_) AllReadyH.nil)
                clear hHeld
                rw [if_pos (by kernel_rfl)]
                refine wp_append_like U1 (.tmp 62) (.tmp 66) rfl (newB B) h0 (some ⟨nb, 0, none⟩) 0 [] rfl ROW (some ⟨ka, 0, none⟩) hc1 (H.take i) (by rw [HTI.out.1]; rfl) (fun e => by cases e) (HLL.out _ L).1 (fun x e => by have := ROW.place x e; show B ≤ x.block; omega) (by have := HTI.out.1; simp at this ⊢; omega) (HSZ0.out _ L) ?_
                intro aa ca U3 ROWA GA LA
                have L := L.grown GA (HSZ0.out _ L) (fun k hk => by obtain ⟨x, e, rfl⟩ := own_of_slice hk; exact (ROW.place x e).1)
                have ROWA := ROWA.less (F' := newB B) (fun k hk => .inl hk)
                rw [List.nil_append] at ROWA ⊢
                rw [HTI.out.1]
                clear GA LA ROW
                refine hK.out _ _ trivial (fun hHeld => ?_)
                clear hK K
                (try simp only [Act.put, List.setIfInBounds_toArray, List.set_cons_zero, List.set_cons_succ])
                refine wpAnyH_ready (rs := [11]) (by kernel_rfl) (by simp) (AllReadyH.cons rfl (fun K hK => ?_) AllReadyH.nil)
                clear hHeld
                rw [if_pos (by kernel_rfl)]
                refine wp_append_like U3 (.tmp 67) (.tmp 72) rfl (newB B) h0 aa ca (H.take i) (by rw [HTI.out.1]; rfl) ROWA _ (hc1 - d2) (H.drop d2) (by rw [HTI.out.2.1]; rfl) (fun e => by cases e) (HLX.out _ L) (fun x e => by have := ROWA.place x e; show B ≤ x.block; omega) (by rw [HTI.out.1, HTI.out.2.1]; omega) (HSZ0.out _ L) ?_
                intro az cz U4 ROWZ GA LA
                have L := L.grown GA (HSZ0.out _ L) (fun k hk => by obtain ⟨x, e, rfl⟩ := own_of_slice hk; exact (ROWA.place x e).1)
                have ROWZ := ROWZ.less (F' := newB B) (fun k hk => .inl hk)
                clear GA LA ROWA
                rw [HTI.out.2.2]
                refine hK.out _ _ trivial (fun hHeld => ?_)
                clear hK K
                (try simp only [Act.put, List.setIfInBounds_toArray, List.set_cons_zero, List.set_cons_succ])
                refine stake (i := 12) (v := (.pointer (some ⟨e0, 2, none⟩))) 74 rfl (by kernel_rfl) (by kernel_rfl) (by kernel_rfl) (by kernel_rfl) (fun _ _ _ h => h) (.inl ⟨by kernel_rfl, fun w' hS => by (go_simp)⟩) hHeld ?_
                (try simp only [Act.put, List.setIfInBounds_toArray, List.set_cons_zero, List.set_cons_succ])
                refine wpAnyH_ready (rs := [13]) (by kernel_rfl) (by simp) (AllReadyH.cons rfl (fun K hK => ?_) AllReadyH.nil)
                clear hHeld
                rw [if_pos (by kernel_rfl)]
                have EW := (HRBL.out _ L).e
                have c2 := EW.own.at_ 2 _ rfl
                have f2 := EW.own.free 2
                have FIN := Lib.hid (HFINAL.out _ az cz L ROWZ)
                go_simp
                refine hK.out _ _ trivial (fun hHeld => ?_)
                clear hK K hHeld EW c2 f2 L ROWZ
                (try simp only [Act.put, List.setIfInBounds_toArray, List.set_cons_zero, List.set_cons_succ])
                refine wpAnyH_done (by kernel_rfl) ?_ _
                go_wp2_with fail
                go_meet
                exact ⟨az, cz, FIN.out⟩
            · clear hHeld
              rw [if_pos (by kernel_rfl)]
              have EW := (HRBL.out _ L).e
              have c2 := EW.own.at_ 2 _ rfl
              go_simp
              clear c2 EW
              refine hK.out _ _ trivial (fun hHeld => ?_)
              clear hK K
              (try simp only [Act.put, List.setIfInBounds_toArray, List.set_cons_zero, List.set_cons_succ])
              refine stake (i := 10) (v := (.slice (some X) (nH - d2) (hc1 - d2))) 72 rfl (by kernel_rfl) (by kernel_rfl) (by kernel_rfl) (by kernel_rfl) (fun _ _ _ h => h) (yields_ms_lx X HXE.out (by kernel_rfl) (.tmp 69) (.tmp 71) rfl ⟨ka, 0, none⟩ nH hc1 d2 (by kernel_rfl) (by kernel_rfl) (by omega)) hHeld ?_
              (try simp only [Act.put, List.setIfInBounds_toArray, List.set_cons_zero, List.set_cons_succ])
              refine wpAnyH_ready (rs := [0]) (by kernel_rfl) (by simp) (AllReadyH.cons rfl (fun K hK => ?_) AllReadyH.nil)
              clear hHeld
              rw [if_pos (by kernel_rfl)]
              go_simp
              have hh := HSZ0.out _ L
              have ROW := (out_made V0 (newB B)).base_le hh
              have L := L.alloc hh (.cells #[] 37)
              generalize (V0.alloc (.cells #[] 37)) = U2 at *
              generalize V0.heap.size = nb at *
              refine hK.out _ _ trivial (fun hHeld => ?_)
              clear hK K
              (try simp only [Act.put, List.setIfInBounds_toArray, List.set_cons_zero, List.set_cons_succ])
              refine wpAnyH_ready (rs := [5]) (by kernel_rfl) (by simp) (AllReadyH.cons rfl (fun K hK => ?_) AllReadyH.nil)
              clear hHeld
              rw [if_pos (by kernel_rfl)]
              refine wp_append_like U2 (.tmp 62) (.tmp 66) rfl (newB B) h0 (some ⟨nb, 0, none⟩) 0 [] rfl ROW (some ⟨ka, 0, none⟩) hc1 (H.take i) (by rw [HTI.out.1]; rfl) (fun e => by cases e) (HLL.out _ L).1 (fun x e => by have := ROW.place x e; show B ≤ x.block; omega) (by have := HTI.out.1; simp at this ⊢; omega) (HSZ0.out _ L) ?_
              intro aa ca U3 ROWA GA LA
              have L := L.grown GA (HSZ0.out _ L) (fun k hk => by obtain ⟨x, e, rfl⟩ := own_of_slice hk; exact (ROW.place x e).1)
              have ROWA := ROWA.less (F' := newB B) (fun k hk => .inl hk)
              rw [List.nil_append] at ROWA ⊢
              rw [HTI.out.1]
              clear GA LA ROW
              refine hK.out _ _ trivial (fun hHeld => ?_)
              clear hK K
              (try simp only [Act.put, List.setIfInBounds_toArray, List.set_cons_zero, List.set_cons_succ])
              refine wpAnyH_ready (rs := [11]) (by kernel_rfl) (by simp) (AllReadyH.cons rfl (fun K hK => ?_) AllReadyH.nil)
              clear hHeld
              rw [if_pos (by kernel_rfl)]
              refine wp_append_like U3 (.tmp 67) (.tmp 72) rfl (newB B) h0 aa ca (H.take i) (by rw [HTI.out.1]; rfl) ROWA _ (hc1 - d2) (H.drop d2) (by rw [HTI.out.2.1]; rfl) (fun e => by cases e) (HLX.out _ L) (fun x e => by have := ROWA.place x e; show B ≤ x.block; omega) (by rw [HTI.out.1, HTI.out.2.1]; omega) (HSZ0.out _ L) ?_
              intro az cz U4 ROWZ GA LA
              have L := L.grown GA (HSZ0.out _ L) (fun k hk => by obtain ⟨x, e, rfl⟩ := own_of_slice hk; exact (ROWA.place x e).1)
              have ROWZ := ROWZ.less (F' := newB B) (fun k hk => .inl hk)
              clear GA LA ROWA
              rw [HTI.out.2.2]
              refine hK.out _ _ trivial (fun hHeld => ?_)
              clear hK K
              (try simp only [Act.put, List.setIfInBounds_toArray, List.set_cons_zero, List.set_cons_succ])
              refine stake (i := 12) (v := (.pointer (some ⟨e0, 2, none⟩))) 74 rfl (by kernel_rfl) (by kernel_rfl) (by kernel_rfl) (by kernel_rfl) (fun _ _ _ h => h) (.inl ⟨by kernel_rfl, fun w' hS => by (go_simp)⟩) hHeld ?_
              (try simp only [Act.put, List.setIfInBounds_toArray, List.set_cons_zero, List.set_cons_succ])
              refine wpAnyH_ready (rs := [13]) (by kernel_rfl) (by simp) (AllReadyH.cons rfl (fun K hK => ?_) AllReadyH.nil)
              clear hHeld
              rw [if_pos (by kernel_rfl)]
              have EW := (HRBL.out _ L).e
              have c2 := EW.own.at_ 2 _ rfl
              have f2 := EW.own.free 2
              have FIN := Lib.hid (HFINAL.out _ az cz L ROWZ)
              go_simp
              refine hK.out _ _ trivial (fun hHeld => ?_)
              clear hK K hHeld EW c2 f2 L ROWZ
              (try simp only [Act.put, List.setIfInBounds_toArray, List.set_cons_zero, List.set_cons_succ])
              refine wpAnyH_done (by kernel_rfl) ?_ _
              go_wp2_with fail
              go_meet
              exact ⟨az, cz, FIN.out⟩
          · clear hHeld
            rw [if_pos (by kernel_rfl)]
            have EW := (HRBL.out _ L).e
            have c2 := EW.own.at_ 2 _ rfl
            go_simp
            clear c2 EW
            refine hK.out _ _ trivial (fun hHeld => ?_)
            clear hK K
            (try simp only [Act.put, List.setIfInBounds_toArray, List.set_cons_zero, List.set_cons_succ])
            refine stake (i := 10) (v := (.slice (some X) (nH - d2) (hc1 - d2))) 72 rfl (by kernel_rfl) (by kernel_rfl) (by kernel_rfl) (by kernel_rfl) (fun _ _ _ h => h) (yields_ms_lx X HXE.out (by kernel_rfl) (.tmp 69) (.tmp 71) rfl ⟨ka, 0, none⟩ nH hc1 d2 (by kernel_rfl) (by kernel_rfl) (by omega)) hHeld ?_
            (try simp only [Act.put, List.setIfInBounds_toArray, List.set_cons_zero, List.set_cons_succ])
            refine wpAnyH_ready (rs := [0, 2]) (by kernel_rfl) (by simp) (AllReadyH.cons rfl (fun K hK => ?_) (AllReadyH.cons rfl (fun K hK => ?_) AllReadyH.nil))
            · clear hHeld
              rw [if_pos (by kernel_rfl)]
              go_simp
              have hh := HSZ0.out _ L
              have ROW := (out_made V0 (newB B)).base_le hh
              have L := L.alloc hh (.cells #[] 37)
              generalize (V0.alloc (.cells #[] 37)) = U1 at *
              generalize V0.heap.size = nb at *
              refine hK.out _ _ trivial (fun hHeld => ?_)
              clear hK K
              (try simp only [Act.put, List.setIfInBounds_toArray, List.set_cons_zero, List.set_cons_succ])
              refine wpAnyH_ready (rs := [2]) (by kernel_rfl) (by simp) (AllReadyH.cons rfl (fun K hK => ?_) AllReadyH.nil)
              clear hHeld
              rw [if_pos (by kernel_rfl)]
              have EW := (HRBL.out _ L).e
              have c2 := EW.own.at_ 2 _ rfl
              go_simp
              clear c2 EW
              refine hK.out _ _ trivial (fun hHeld => ?_)
              clear hK K
              (try simp only [Act.put, List.setIfInBounds_toArray, List.set_cons_zero, List.set_cons_succ])
              refine stake (i := 4) (v := (.slice (some ⟨ka, 0, none⟩) i hc1)) 66 rfl (by kernel_rfl) (by kernel_rfl) (by kernel_rfl) (by kernel_rfl) (fun _ _ _ h => h) (yields_ms_h (by kernel_rfl) (.tmp 64) (.tmp 65) rfl ⟨ka, 0, none⟩ nH hc1 i (by kernel_rfl) (by kernel_rfl) (by omega) (by omega)) hHeld ?_
              (try simp only [Act.put, List.setIfInBounds_toArray, List.set_cons_zero, List.set_cons_succ])
              refine wpAnyH_ready (rs := [5]) (by kernel_rfl) (by simp) (AllReadyH.cons rfl (fun K hK => ?_) AllReadyH.nil)
              clear hHeld
              rw [if_pos (by kernel_rfl)]
              refine wp_append_like U1 (.tmp 62) (.tmp 66) rfl (newB B) h0 (some ⟨nb, 0, none⟩) 0 [] rfl ROW (some ⟨ka, 0, none⟩) hc1 (H.take i) (by rw [HTI.out.1]; rfl) (fun e => by cases e) (HLL.out _ L).1 (fun x e => by have := ROW.place x e; show B ≤ x.block; omega) (by have := HTI.out.1; simp at this ⊢; omega) (HSZ0.out _ L) ?_
              intro aa ca U3 ROWA GA LA
              have L := L.grown GA (HSZ0.out _ L) (fun k hk => by obtain ⟨x, e, rfl⟩ := own_of_slice hk; exact (ROW.place x e).1)
              have ROWA := ROWA.less (F' := newB B) (fun k hk => .inl hk)
              rw [List.nil_append] at ROWA ⊢
              rw [HTI.out.1]
              clear GA LA ROW
              refine hK.out _ _ trivial (fun hHeld => ?_)
              clear hK K
              (try simp only [Act.put, List.setIfInBounds_toArray, List.set_cons_zero, List.set_cons_succ])
              refine wpAnyH_ready (rs := [11]) (by kernel_rfl) (by simp) (AllReadyH.cons rfl (fun K hK => ?_) AllReadyH.nil)
              clear hHeld
              rw [if_pos (by kernel_rfl)]
              refine wp_append_like U3 (.tmp 67) (.tmp 72) rfl (newB B) h0 aa ca (H.take i) (by rw [HTI.out.1]; rfl) ROWA _ (hc1 - d2) (H.drop d2) (by rw [HTI.out.2.1]; rfl) (fun e => by cases e) (HLX.out _ L) (fun x e => by have := ROWA.place x e; show B ≤ x.block; omega) (by rw [HTI.out.1, HTI.out.2.1]; omega) (HSZ0.out _ L) ?_
              intro az cz U4 ROWZ GA LA
              have L := L.grown GA (HSZ0.out _ L) (fun k hk => by obtain ⟨x, e, rfl⟩ := own_of_slice hk; exact (ROWA.place x e).1)
              have ROWZ := ROWZ.less (F' := newB B) (fun k hk => .inl hk)
              clear GA LA ROWA
              rw [HTI.out.2.2]
              refine hK.out _ _ trivial (fun hHeld => ?_)
              clear hK K
              (try simp only [Act.put, List.setIfInBounds_toArray, List.set_cons_zero, List.set_cons_succ])
              refine stake (i := 12) (v := (.pointer (some ⟨e0, 2, none⟩))) 74 rfl (by kernel_rfl) (by kernel_rfl) (by kernel_rfl) (by kernel_rfl) (fun _ _ _ h => h) (.inl ⟨by kernel_rfl, fun w' hS => by (go_simp)⟩) hHeld ?_
              (try simp only [Act.put, List.setIfInBounds_toArray, List.set_cons_zero, List.set_cons_succ])
              refine wpAnyH_ready (rs := [13]) (by kernel_rfl) (by simp) (AllReadyH.cons rfl (fun K hK => ?_) AllReadyH.nil)
              clear hHeld
              rw [if_pos (by kernel_rfl)]
              have EW := (HRBL.out _ L).e
              have c2 := EW.own.at_ 2 _ rfl
              have f2 := EW.own.free 2
              have FIN := Lib.hid (HFINAL.out _ az cz L ROWZ)
              go_simp
              refine hK.out _ _ trivial (fun hHeld => ?_)
              clear hK K hHeld EW c2 f2 L ROWZ
              (try simp only [Act.put, List.setIfInBounds_toArray, List.set_cons_zero, List.set_cons_succ])
              refine wpAnyH_done (by kernel_rfl) ?_ _
              go_wp2_with fail
              go_meet
              exact ⟨az, cz, FIN.out⟩
            · clear hHeld
              rw [if_pos (by kernel_rfl)]
              have EW := (HRBL.out _ L).e
              have c2 := EW.own.at_ 2 _ rfl
              go_simp
              clear c2 EW
              refine hK.out _ _ trivial (fun hHeld => ?_)
              clear hK K
              (try simp only [Act.put, List.setIfInBounds_toArray, List.set_cons_zero, List.set_cons_succ])
              refine stake (i := 4) (v := (.slice (some ⟨ka, 0, none⟩) i hc1)) 66 rfl (by kernel_rfl) (by kernel_rfl) (by kernel_rfl) (by kernel_rfl) (fun _ _ _ h => h) (yields_ms_h (by kernel_rfl) (.tmp 64) (.tmp 65) rfl ⟨ka, 0, none⟩ nH hc1 i (by kernel_rfl) (by kernel_rfl) (by omega) (by omega)) hHeld ?_
              (try simp only [Act.put, List.setIfInBounds_toArray, List.set_cons_zero, List.set_cons_succ])
              refine wpAnyH_ready (rs := [0]) (by kernel_rfl) (by simp) (AllReadyH.cons rfl (fun K hK => ?_) AllReadyH.nil)
              clear hHeld
              rw [if_pos (by kernel_rfl)]
              go_simp
              have hh := HSZ0.out _ L
              have ROW := (out_made V0 (newB B)).base_le hh
              have L := L.alloc hh (.cells #[] 37)
              generalize (V0.alloc (.cells #[] 37)) = U2 at *
              generalize V0.heap.size = nb at *
              refine hK.out _ _ trivial (fun hHeld => ?_)
              clear hK K
              (try simp only [Act.put, List.setIfInBounds_toArray, List.set_cons_zero, List.set_cons_succ])
              refine wpAnyH_ready (rs := [5]) (by kernel_rfl) (by simp) (AllReadyH.cons rfl (fun K hK => ?_) AllReadyH.nil)
              clear hHeld
              rw [if_pos (by kernel_rfl)]
              refine wp_append_like U2 (.tmp 62) (.tmp 66) rfl (newB B) h0 (some ⟨nb, 0, none⟩) 0 [] rfl ROW (some ⟨ka, 0, none⟩) hc1 (H.take i) (by rw [HTI.out.1]; rfl) (fun e => by cases e) (HLL.out _ L).1 (fun x e => by have := ROW.place x e; show B ≤ x.block; omega) (by have := HTI.out.1; simp at this ⊢; omega) (HSZ0.out _ L) ?_
              intro aa ca U3 ROWA GA LA
              have L := L.grown GA (HSZ0.out _ L) (fun k hk => by obtain ⟨x, e, rfl⟩ := own_of_slice hk; exact (ROW.place x e).1)
              have ROWA := ROWA.less (F' := newB B) (fun k hk => .inl hk)
              rw [List.nil_append] at ROWA ⊢
              rw [HTI.out.1]
              clear GA LA ROW
              refine hK.out _ _ trivial (fun hHeld => ?_)
              clear hK K
              (try simp only [Act.put, List.setIfInBounds_toArray, List.set_cons_zero, List.set_cons_succ])
              refine wpAnyH_ready (rs := [11]) (by kernel_rfl) (by simp) (AllReadyH.cons rfl (fun K hK => ?_) AllReadyH.nil)
              clear hHeld
              rw [if_pos (by kernel_rfl)]
              refine wp_append_like U3 (.tmp 67) (.tmp 72) rfl (newB B) h0 aa ca (H.take i) (by rw [HTI.out.1]; rfl) ROWA _ (hc1 - d2) (H.drop d2) (by rw [HTI.out.2.1]; rfl) (fun e => by cases e) (HLX.out _ L) (fun x e => by have := ROWA.place x e; show B ≤ x.block; omega) (by rw [HTI.out.1, HTI.out.2.1]; omega) (HSZ0.out _ L) ?_
              intro az cz U4 ROWZ GA LA
              have L := L.grown GA (HSZ0.out _ L) (fun k hk => by obtain ⟨x, e, rfl⟩ := own_of_slice hk; exact (ROWA.place x e).1)
              have ROWZ := ROWZ.less (F' := newB B) (fun k hk => .inl hk)
              clear GA LA ROWA
              rw [HTI.out.2.2]
              refine hK.out _ _ trivial (fun hHeld => ?_)
              clear hK K
              (try simp only [Act.put, List.setIfInBounds_toArray, List.set_cons_zero, List.set_cons_succ])
              refine stake (i := 12) (v := (.pointer (some ⟨e0, 2, none⟩))) 74 rfl (by kernel_rfl) (by kernel_rfl) (by kernel_rfl) (by kernel_rfl) (fun _ _ _ h => h) (.inl ⟨by kernel_rfl, fun w' hS => by (go_simp)⟩) hHeld ?_
              (try simp only [Act.put, List.setIfInBounds_toArray, List.set_cons_zero, List.set_cons_succ])
              refine wpAnyH_ready (rs := [13]) (by kernel_rfl) (by simp) (AllReadyH.cons rfl (fun K hK => ?_) AllReadyH.nil)
              clear hHeld
              rw [if_pos (by kernel_rfl)]
              have EW := (HRBL.out _ L).e
              have c2 := EW.own.at_ 2 _ rfl
              have f2 := EW.own.free 2
              have FIN := Lib.hid (HFINAL.out _ az cz L ROWZ)
              go_simp
              refine hK.out _ _ trivial (fun hHeld => ?_)
              clear hK K hHeld EW c2 f2 L ROWZ
              (try simp only [Act.put, List.setIfInBounds_toArray, List.set_cons_zero, List.set_cons_succ])
              refine wpAnyH_done (by kernel_rfl) ?_ _
              go_wp2_with fail
              go_meet
              exact ⟨az, cz, FIN.out⟩
        case rest =>
          obtain ⟨az, cz, hst⟩ := hcut
          have HS7 := Lib.hid hst
          have EV := hst.base.e
          have v1 := EV.own.at_ 1 _ rfl
          have f1 := EV.own.free 1
          have HS8 := Lib.hid (hst.count d)
          clear hst EV HST5
          go_wp2_with fail
          go_roundw
          case rel =>
            have hnl := HTI.out.2.2
            have hnh := HNH.out
            have hd2v := HD2.out
            have hdv := HDD.out
            refine ⟨d, H.take i ++ H.drop d2, out1 ++ [m2], az, cz, oo2, oc2, by simp, HS8.out, Lib.hid ?_, Lib.hid ?_, by rw [List.length_append, hnl]; simp; omega, by simp; omega⟩
            · obtain ⟨d1, e2, e3⟩ := HDR.out
              have hH : H.length = (H.take i ++ H.drop d2).length + 1 := by rw [hnl, ← hnh]; omega
              have hg : getS sqG H (c1 + 1) = some m2 := by rw [← hdv]; exact HM2.out.2.1
              rw [hH, drainS_some sqG _ _ _ _ hg, ← hdv, HM2.out.2.2, ← hd2v] at d1 e2 e3
              refine ⟨d1, e2, ?_⟩
              rw [List.append_assoc]
              exact e3
            · intro y hy
              refine HFH.out y ?_
              rcases List.mem_append.1 hy with hy | hy
              · exact List.mem_of_mem_take hy
              · exact List.mem_of_mem_drop hy
          case measure => simp [lenOf]; omega
end Go.Proofs.Ytcnfkjjfegjecaa
