/- An order of the law's own; awake. -/
import Derived.Test.YtfocjcdfpnbkjaaZOrdCopy
import Derived.Laws.StructEq
set_option linter.unusedVariables false
set_option maxRecDepth 100000
set_option linter.unusedSimpArgs false
namespace Go.Proofs.Ytfocjcdfpnbkjaa
open Go.RowKit Go.Sort Go.Shelf

theorem held_key14 : Try.prog.stoodInHeld 39 = false := by kernel_rfl
/-- An order made since w. -/
structure OwnO (w wr : World) (g N : Nat) (O : Od) : Prop where
  ex : ∃ E, ORep wr E g N O ∧ ∀ k, E k → w.heap.size ≤ k
  bel : Below w.heap.size w wr
section
variable {w wr : World} {g N : Nat} {O : Od}
theorem OwnO.later {w' : World} (h : OwnO w wr g N O) (hb : Below wr.heap.size wr w') : OwnO w w' g N O := by
  obtain ⟨E, h1, h2⟩ := h.ex
  exact ⟨⟨E, h1.below hb, h2⟩, h.bel.trans (hb.mono h.bel.size)⟩
theorem OwnO.ok (h : OwnO w wr g N O) : O.ok := by
  obtain ⟨E, h1, h2⟩ := h.ex
  exact h1.ok
theorem OwnO.le {M : Nat} (h : OwnO w wr g N O) (hm : N ≤ M) : OwnO w wr g M O := by
  obtain ⟨E, h1, h2⟩ := h.ex
  exact ⟨⟨E, h1.le hm, h2⟩, h.bel⟩
theorem OwnO.of {w' : World} {E : Nat → Prop} {M : Nat} {O' : Od} {v : Value} {e : Ending} (hE : ∀ k, E k → w.heap.size ≤ k) (hb : Below w.heap.size w wr) (hs : OSaid wr E g M O' v e w') : OwnO w w' g M O' :=
  ⟨⟨_, hs.rep, fun k hk => by
    rcases hk with hk | hk
    · exact hE k hk
    · have := hb.size; omega⟩, hb.trans (hs.chg.below hb.size hE)⟩
theorem oo_take (h : OwnO w wr g N O) (hN : N ≤ 999) (m : Mg) (hm : m.okS) (hd : DpIn wr m) (hdl : m.dl ≤ 1048576) :
    Calls Try.prog 33 #[.pointer (some ⟨g, 0, none⟩), valG m] wr fun e w' => e = .returned (.int .i64 (takeCode O m)) ∧ OwnO w w' g (N + 1) (takeO O m) := by
  obtain ⟨E, h1, h2⟩ := h.ex
  exact (otake h1 hN m hm hd hdl).mono fun e w' hs => ⟨hs.ans, OwnO.of h2 h.bel hs⟩
theorem oo_trim (h : OwnO w wr g N O) (hN : N ≤ 1000) (p : Int) (p0 : -9223372036854775808 ≤ p) (p1 : p ≤ 9223372036854775807) (upto : Nat) (hu : upto < 4294967296) :
    Calls Try.prog 37 #[.pointer (some ⟨g, 0, none⟩), .int .i64 p, .int .u32 (upto : Int)] wr fun e w' => e = .returned (.tuple #[]) ∧ OwnO w w' g N (trimO O p upto) := by
  obtain ⟨E, h1, h2⟩ := h.ex
  exact (otrim h1 hN p p0 p1 upto hu).mono fun e w' hs => ⟨hs.ans, OwnO.of h2 h.bel hs⟩
end
theorem oo_new (w wr : World) (hb : Below w.heap.size w wr) (me : Int) (s : Nat) (hs : s < 18446744073709551616) (m0 : -9223372036854775808 ≤ me) (m1 : me ≤ 9223372036854775807) :
    Calls Try.prog 16 #[.int .i64 me, .int .u64 (s : Int)] wr fun e w' => ∃ g, e = .returned (.pointer (some ⟨g, 0, none⟩)) ∧ OwnO w w' g 0 (newO me s) := by
  refine (onew me s wr hs m0 m1).mono fun e w' hs => ?_
  obtain ⟨g, k1, k2, k3⟩ := hs
  exact ⟨g, k1, ⟨_, k2, fun k hk => by have := hk.1; have := hb.size; omega⟩, hb.trans (k3.mono hb.size)⟩

theorem InI.two14 (w : World) (x y : Int) (hx0 : -9223372036854775808 ≤ x) (hx1 : x ≤ 9223372036854775807) (hy0 : -9223372036854775808 ≤ y) (hy1 : y ≤ 9223372036854775807) : InI (w.alloc (.cells #[.int .i64 x, .int .i64 y] 3)) (some ⟨w.heap.size, 0, none⟩) 2 [x, y] := ⟨rfl, fun j v hj => ⟨_, rfl, by
    match j with
    | 0 => simp at hj; subst hj; simp [Addr.add]
    | 1 => simp at hj; subst hj; simp [Addr.add]
    | j + 2 => simp at hj⟩, fun v hv => by simp at hv; rcases hv with rfl | rfl <;> omega⟩
def wm1 : Mg := ⟨1, 1, 4, 0, none, 0, 0, [], { data := #[] }⟩
def wm2 : Mg := ⟨0, 1, 4, 2, none, 0, 0, [], { data := #[] }⟩
def wm3 : Mg := ⟨2, 1, 0, 0, none, 0, 0, [], { data := #[] }⟩
def wO0 : Od := newO 0 3
def wO1 : Od := takeO wO0 wm1
def wO2 : Od := takeO wO1 wm2
def wO4 : Od := reachO wO2 1 4
theorem wk1 : takeCode wO0 wm1 = 0 ∧ takeCode wO1 wm2 = 0 ∧ takeCode wO2 wm3 = 5 := by decide +kernel
theorem wk3 : mem wO2.ms wm3.f = false := by decide +kernel
theorem wk4 : (nextO wO2).isNone = true := by decide +kernel
theorem wk5 : (drainO wO4).1.map Mg.f = [0, 1] ∧ (drainO wO4).2.last = ⟨4, 1⟩ ∧ doneO (drainO wO4).2 1 = 1 ∧ ((catF (drainO wO4).2.S.R ⟨0, -1⟩ 64).filter (leftM (drainO wO4).2)).length = 0 := by decide +kernel
theorem wof : (ofl [0, 1] : Nat) = 3 := by decide +kernel
theorem dpnil (w : World) (m : Mg) (h1 : m.dl = 0) (h2 : m.deps = []) : DpIn w m := by unfold DpIn; rw [h1, h2]; exact ⟨rfl, fun h => by omega⟩
theorem wok (m : Mg) (h : m = wm1 ∨ m = wm2 ∨ m = wm3) : m.okS := by
  rcases h with rfl | rfl | rfl <;> exact ⟨by decide, by decide, by decide, by decide, by decide, by decide⟩
theorem wnext : nextO wO2 = none := Option.isNone_iff_eq_none.1 wk4
theorem wt3 : takeO wO2 wm3 = wO2 := (takeO_no wk3).1
theorem wseen {w wr w' : World} {E F : Nat → Prop} {g gh gz N : Nat} {zs : ZSl} {O : Od} {H : Hz} (h : OAt wr E g gh gz N F zs O) (hE : ∀ k, E k → w.heap.size ≤ k) (hb : Below w.heap.size w wr) (hr : Gone13 wr w' gz 0 zs H) {M : Nat} (hm : N ≤ M) (hw : H.wait.length ≤ M) : OwnO w w' g M { O with H := H } := by
  obtain ⟨h1, h2⟩ := h.seen hr hm hw
  exact ⟨⟨_, h1, fun k hk => by
    rcases hk with hk | hk
    · exact hE k hk
    · have := hb.size; omega⟩, hb.trans (h2.below hb.size hE)⟩
theorem wrest {Y : List Mg} {n : Nat} (h : IsRest (drainO wO4).2 (Y.map strip)) (hn : Y.length = n) : n = 0 := by
  have h1 := h.fil.length
  rw [List.length_map, wk5.2.2.2] at h1
  omega
set_option maxHeartbeats 8000000 in
theorem oawake (w : World) : Calls Try.prog 14 #[] w fun e w' => e = .returned (.bool true) ∧ Below w.heap.size w w' := by
  have HO := of_any (some ⟨w.heap.size, 0, none⟩) 2 2 [0, 1] _ (InI.two14 w 0 1 (by decide) (by decide) (by decide) (by decide)) (by decide)
  rw [wof] at HO
  have B0 := ((Grw.refl w).alloc (.cells #[.int .i64 0, .int .i64 1] 3)).below
  have PN := oo_new w _ B0 0 3 (by decide) (by decide) (by decide)
  clear B0
  go_enter Try.func14, Try.ntmps14
  go_wp2_with fail
  refine HO.mono ?_
  rintro e w' ⟨rfl, rfl⟩
  go_wp2_with fail
  refine PN.mono ?_
  rintro e v0 ⟨g, rfl, H0⟩
  change OwnO w v0 g 0 wO0 at H0
  clear HO PN
  have P0 := oo_take H0 (by decide) wm1 (wok wm1 (.inl rfl)) (dpnil _ _ rfl rfl) (by decide)
  rw [wk1.1] at P0
  unfold wm1 valG at P0
  simp only [encG] at P0
  change Calls Try.prog 33 _ _ (fun e w' => e = _ ∧ OwnO w w' g 1 wO1) at P0
  clear H0
  go_wp2_with fail
  refine P0.mono ?_
  rintro e v1 ⟨rfl, H1⟩
  clear P0
  have P1 := oo_take H1 (by decide) wm2 (wok wm2 (.inr (.inl rfl))) (dpnil _ _ rfl rfl) (by decide)
  rw [wk1.2.1] at P1
  unfold wm2 valG at P1
  simp only [encG] at P1
  change Calls Try.prog 33 _ _ (fun e w' => e = _ ∧ OwnO w w' g 2 wO2) at P1
  clear H1
  go_wp2_with fail
  refine P1.mono ?_
  rintro e v2 ⟨rfl, H2⟩
  clear P1
  have P2 := oo_take H2 (by decide) wm3 (wok wm3 (.inr (.inr rfl))) (dpnil _ _ rfl rfl) (by decide)
  rw [wk1.2.2, wt3] at P2
  unfold wm3 valG at P2
  simp only [encG] at P2
  clear H2
  go_wp2_with fail
  refine P2.mono ?_
  rintro e v3 ⟨rfl, H3⟩
  clear P2
  obtain ⟨E3, h3, hE3⟩ := H3.ex
  have PX := onext h3 (by decide)
  rw [wnext] at PX
  have HB3 := Lib.hid (And.intro hE3 H3.bel)
  clear H3 h3 hE3
  go_wp2_with fail
  refine PX.mono ?_
  rintro e v4 hs
  cases hs with
  | no w' hr hB =>
    have M5 : MgB (v4.alloc (.cells #[.int .i64 0, .int .u32 0, .int .u64 0, .int .i64 0, .slice none 0 0, .string { data := #[] }] 47)) v4.heap.size zeroG := MgB.new v4 zeroG
    have L5 := ((Grw.refl v4).alloc (.cells #[.int .i64 0, .int .u32 0, .int .u64 0, .int .i64 0, .slice none 0 0, .string { data := #[] }] 47)).below
    have L6 := belowRow10 L5 v4.heap.size (Nat.le_refl _) (encG zeroG).toArray
    have h6 := hr.below L6
    have HB6 := Lib.hid (show Below w.heap.size w ((v4.alloc (.cells #[.int .i64 0, .int .u32 0, .int .u64 0, .int .i64 0, .slice none 0 0, .string { data := #[] }] 47)).setRow v4.heap.size (encG zeroG).toArray) from (HB3.out.2.trans (hB.mono HB3.out.2.size)).trans (L6.mono (Nat.le_trans HB3.out.2.size hB.size)))
    obtain ⟨gh, gz, F, zs, hA⟩ := h6.ex
    have HA := Lib.hid hA
    have HE := Lib.hid HB3.out.1
    clear PX hr hB L5 L6 h6 hA HB3
    go_upto_region 8 with (first | (refine store_mg rfl (.tmp 5) (.tmp 25) rfl v4.heap.size zeroG rfl rfl M5 ?_) | fail)
    clear M5
    generalize (v4.alloc (.cells #[.int .i64 0, .int .u32 0, .int .u64 0, .int .i64 0, .slice none 0 0, .string { data := #[] }] 47)).setRow v4.heap.size (encG zeroG).toArray = v6 at *
    generalize v4.heap.size = mb at *
    have c1 := HA.out.c1
    have KR := zreached HA.out.hz 1 (by decide) (by decide) 4 (by decide)
    go_wp2_with fail
    refine KR.mono ?_
    rintro e v7 ⟨rfl, k1, k2⟩
    have H7 : OwnO w v7 g 3 wO4 := wseen HA.out HE.out HB6.out (Gone13.mk' k1 k2) (by decide) (by
      show (reachZ wO2.H 1 4).wait.length ≤ 3
      have : (reachZ wO2.H 1 4).wait = wO2.H.wait := by unfold reachZ; split <;> rfl
      rw [this]; exact Nat.le_trans HA.out.wt (by decide))
    obtain ⟨E7, h7, hE7⟩ := H7.ex
    have KD := odrain h7 (by decide)
    have HB7 := Lib.hid (And.intro hE7 H7.bel)
    have HK := Lib.hid h7.ok
    have HG7 := Lib.hid (h7.eg)
    clear KR k1 k2 H7 h7 hE7 c1 HA HE HB6
    go_wp2_with fail
    refine KD.mono ?_
    rintro e v8 ⟨a, n, c, X, P, rfl, hown, hlen, hdp, hdr, hrep, hchg, hfew⟩
    have hP := hdr.eq HK.out
    have e1 : X.map strip = (drainO wO4).1 := by rw [hP]
    have e2 : P = (drainO wO4).2 := by rw [hP]
    subst e2
    have hfs : X.map Mg.f = [0, 1] := by
      have h1 := wk5.1
      rw [← e1, List.map_map] at h1
      exact h1
    have hn2 : n = 2 := by
      have h1 := congrArg List.length hfs
      rw [List.length_map, hlen] at h1
      exact h1
    subst hn2
    obtain ⟨x0, x1, rfl⟩ : ∃ x0 x1, X = [x0, x1] := by
      match X, hlen with
      | [x0, x1], _ => exact ⟨x0, x1, rfl⟩
    have hx0 : x0.f = 0 := by simp at hfs; exact hfs.1
    have hne : a ≠ none := by
      rintro rfl
      rcases hown.2 with ⟨h1, _⟩ | ⟨g1, cc, cur, h1, _⟩
      · injection h1 with _ h1 _; cases h1
      · cases h1
    obtain ⟨b, o, hab, R⟩ := (own_lst' (enc := encG) encG_length hlen hown).src (by decide)
    subst hab
    have d0 : v8.cell? ⟨b, o, none⟩ = some (.int .i64 0) := by
      have := R 0 x0 rfl 0 _ rfl
      rw [hx0] at this
      simpa using this
    have hB8 : Below w.heap.size w v8 := HB7.out.2.trans (hchg.below HB7.out.2.size fun k hk => by subst hk; exact HB7.out.1 _ HG7.out)
    have KL := olast hrep
    rw [wk5.2.1] at KL
    have hq := held_key14
    have HR8 := Lib.hid hrep
    have HB8 := Lib.hid hB8
    clear KD hown hlen hdp hdr hrep hchg hfew hP e1 hfs hx0 hne R HB7 HK HG7 hB8
    go_wp2_with (first | (go_at_call 19; refine KL.mono ?_; rintro e v9 ⟨rfl, hB9⟩) | fail)
    have h9 := HR8.out.below hB9
    have KN := odone h9 1 (by decide) (by decide)
    have KR := orest h9 (by decide)
    rw [wk5.2.2.1] at KN
    have HB9 := Lib.hid (HB8.out.trans (hB9.mono HB8.out.size))
    clear h9 hB9 KL HR8 HB8
    go_wp2_with (first | (go_at_call 26; refine KN.mono ?_; rintro e v' ⟨rfl, rfl⟩) | (go_at_call 21; refine KR.mono ?_; rintro e v10 ⟨⟨sa, sn, sc⟩, Y, rfl, hO, hI, hB10, _⟩; obtain rfl : sn = 0 := wrest hI hO.slot.len))
    go_ret
    exact ⟨rfl, HB9.out.trans (hB10.mono HB9.out.size)⟩
end Go.Proofs.Ytfocjcdfpnbkjaa
