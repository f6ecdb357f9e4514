/- The document's attempt: an exchange comes. (Written by wip/gen_rgadd.py.) -/
import Derived.Test.YtmaiphgmnammgaaDoorZRgAts
set_option linter.unusedVariables false
set_option maxRecDepth 100000
set_option linter.unusedSimpArgs false
namespace Go.Proofs.YtmaiphgmnammgaaDoor
open Go.RowKit Go.Sort Go.Maps

def adOk (R : RG) (x : Xg) : Bool := (ofX R.L x.w).isNone && mem R.M x.w
/-- What Add answers. -/
def AdSaid (w0 w : World) (R : RG) (x : Xg) (e : Ending) (w' : World) : Prop :=
  ∃ R', e = .returned (.tuple #[encRv R', .bool (adOk R x && tR R')]) ∧ (adOk R x = false → R' = R) ∧ (adOk R x = true → ∃ a c, R' = ⟨R.e, R.r, R.M, a, R.n + 1, c, R.L ++ [x], R.Y⟩) ∧ RgX w0 w' R' ∧ Below w.heap.size w w'
/-- What stands once the exchange is there. -/
structure AdSt (w0 w V : World) (e0 : Nat) (x : Xg) (R Z : RG) : Prop where
  b : RgB V e0 R
  x : XgB V (e0 + 1) x
  z : RgB V (e0 + 2) Z
  r : RgX w0 V R
  bel : Below w.heap.size w V
  e : e0 = w.heap.size
theorem ne_of_types {w : World} {i j : Nat} {a b : Array Value} {s t : TypeId} (h : w.heap[i]? = some (.cells a s (0, 0))) (h2 : w.heap[j]? = some (.cells b t (0, 0))) (hn : s ≠ t) : i ≠ j := by
  rintro rfl
  have := h.symm.trans h2
  injection this with e1
  injection e1 with _ e2 _
  exact hn e2
section
variable {w0 w V V' v0 : World} {e0 nb : Nat} {x : Xg} {R Z : RG}
theorem AdSt.later (h : AdSt w0 w V e0 x R Z) (hb : Below V.heap.size V V') : AdSt w0 w V' e0 x R Z := ⟨h.b.below hb, h.x.below hb, h.z.below hb, h.r.later hb, h.bel.trans (hb.mono h.bel.size), h.e⟩
theorem AdSt.store (h : AdSt w0 w V e0 x R Z) (R2 : RG) : AdSt w0 w (V.setRow (e0 + 2) (encRG R2).toArray) e0 x R R2 :=
  ⟨h.b.kept (setRow_other _ _ _ _ (by omega)), h.x.kept (setRow_other _ _ _ _ (by omega)), setRow_heap _ _ _ _ _ _ h.z, h.r.moved fun j cur hj => setRow_other _ _ _ _ (ne_of_types hj h.z.own.is (by decide)), ⟨h.bel.os, h.bel.tape, h.bel.output, by rw [size_setRow]; exact h.bel.size, fun k hk => (setRow_other _ _ _ _ (by have := h.e; omega)).trans (h.bel.block k hk)⟩, h.e⟩
theorem AdSt.make (hb : RgB v0 e0 R) (hx : XgB v0 (e0 + 1) x) (hz : RgB v0 (e0 + 2) Z) (hr : RgX w0 v0 R) (hl : Below w.heap.size w v0) (he : e0 = w.heap.size) (ha : Below v0.heap.size v0 V)
    {za : Option Addr} {zc : Nat} (hq : V.ownsRow nb 38 6 (.slice za (R.n + 1) zc) (R.n + 1) (flat encXg (R.L ++ [x]))) (hbn : v0.heap.size ≤ nb) (hlt : R.n + 1 ≤ 64) (hxi : XI w0 x) :
    AdSt w0 w (V.setCell ⟨e0, 3, none⟩ (.slice za (R.n + 1) zc)) e0 x ⟨R.e, R.r, R.M, za, R.n + 1, zc, R.L ++ [x], R.Y⟩ Z := by
  have hb2 := hb.below ha
  refine ⟨hb2.own.set 3 _, (hx.below ha).kept (heap_setCell_other _ _ _ _ (by show e0 + 1 ≠ e0; omega)), (hz.below ha).kept (heap_setCell_other _ _ _ _ (by show e0 + 2 ≠ e0; omega)), ?_, (hl.trans (ha.mono hl.size)).setCell (by show w.heap.size ≤ e0; omega) _, he⟩
  have h1 : RgX w0 V ⟨R.e, R.r, R.M, za, R.n + 1, zc, R.L ++ [x], R.Y⟩ := by
    refine ⟨own_lst' encXg_length (by rw [List.length_append, hr.at_.size]; rfl) hq, fun ad e => ?_, fun y hy => ?_, hlt, hr.m, hr.y, fun e => ?_⟩
    · subst e
      rcases hq.2 with ⟨h1, _⟩ | ⟨g, cc, cur, h1, _, h3, _⟩
      · cases h1
      · injection h1 with h1 _ _
        injection h1 with h1
        subst h1
        exact ⟨cur, h3⟩
    · rcases List.mem_append.1 hy with hy | hy
      · exact hr.xs y hy
      · rw [List.mem_singleton.1 hy]; exact hxi
    · rcases own_cases hq with ⟨h1, h2⟩ | ⟨g, cc, h1, _⟩
      · injection h1
      · injection h1 with h1 _ _
        have e : za = none := e
        rw [e] at h1
        cases h1
  exact h1.moved fun j cur hj => heap_setCell_other _ _ _ _ (ne_of_types hj hb2.own.is (by decide))
end
theorem yields_xgb {ops : Array Oper} {S : World → Prop} {op : Oper} {a : Act} (hw : Region.wanted op (yielded ops a.tmps) = true) (x : Operand) (ho : op.op = .load 38 x)
    (g : Nat) (hx : a.eval x = .pointer (some ⟨g, 0, none⟩)) {m : Xg} (hS : ∀ w, S w → XgB w g m) : YieldsIf Tryd.prog ops S op (encXv m) a :=
  yieldsIf_load_mid hw 38 x ho g 0 hx (encXg m) _ (fun w' hS' => xgb_range (hS w' hS')) Tryd.underlying38 rfl xg_size
set_option maxHeartbeats 8000000 in
theorem radd {w0 w : World} (R : RG) (x : Xg) (hr : RgX w0 w R) (hxi : XI w0 x) (hlt : adOk R x = true → R.n + 1 ≤ 64) :
    Calls Tryd.prog 14 #[encRv R, encXv x] w (AdSaid w0 w R x) := by
  have B1 := ((Grw.refl w).alloc (.cells (encRG R).toArray 33)).below
  have B2 := ((Grw.refl (w.alloc (.cells (encRG R).toArray 33))).alloc (.cells (encXg x).toArray 38)).below
  have B3 := ((Grw.refl ((w.alloc (.cells (encRG R).toArray 33)).alloc (.cells (encXg x).toArray 38))).alloc (.cells (encRG zeroRG).toArray 33)).below
  have s1 : (w.alloc (.cells (encRG R).toArray 33)).heap.size = w.heap.size + 1 := by simp
  have s2 : ((w.alloc (.cells (encRG R).toArray 33)).alloc (.cells (encXg x).toArray 38)).heap.size = w.heap.size + 2 := by simp
  have x2 := XgB.new (w.alloc (.cells (encRG R).toArray 33)) x
  have z3 := RgB.new ((w.alloc (.cells (encRG R).toArray 33)).alloc (.cells (encXg x).toArray 38)) zeroRG
  rw [s1] at x2
  rw [s2] at z3
  have HR := Lib.hid (((RgB.new w R).below B2).below B3)
  have HX := Lib.hid (x2.below B3)
  have HZ := Lib.hid z3
  have HBL := Lib.hid ((B1.trans (B2.mono B1.size)).trans (B3.mono (Nat.le_trans B1.size B2.size)))
  have HRX := Lib.hid (((hr.later B1).later B2).later B3)
  have HXI := Lib.hid hxi
  have HLT0 := Lib.hid hlt
  have hn := hr.few
  have HADO := Lib.hid (show adOk R x = ((ofX R.L x.w).isNone && mem R.M x.w) from rfl)
  clear B1 B2 B3 s1 s2 x2 z3 hr hxi hlt
  obtain ⟨e, r, M, a, n, c, L, Y⟩ := R
  obtain ⟨xw, xe, xp, xa, xn, xc, cnt, kn, kp⟩ := x
  unfold encRv encXv encRG encXg at *
  unfold zeroRG at HZ HR HX HBL HRX
  simp only at HR HX HZ HBL HRX HXI HLT0 HADO hn
  go_enter Tryd.func14, Tryd.ntmps14
  go_upto_region 1 with fail
  generalize (((w.alloc (.cells #[.int .u64 e, .int .i64 r, .int .u64 (M : Int), .slice a n c, .int .u64 (Y : Int)] 33)).alloc (.cells #[.int .i64 xw, .int .u64 xe, .int .i64 xp, .slice xa xn xc, .int .u64 kn, .int .i64 kp] 38)).alloc (.cells #[.int .u64 0, .int .i64 0, .int .u64 0, .slice none 0 0, .int .u64 0] 33)) = v9 at *
  have HR1 : Hid (RgB v9 w.heap.size ⟨e, r, M, a, n, c, L, Y⟩) := Lib.hid HR.out
  have HX1 : Hid (XgB v9 (w.heap.size + 1) ⟨xw, xe, xp, xa, xn, xc, cnt, ⟨kn, kp⟩⟩) := Lib.hid HX.out
  have HZ1 : Hid (RgB v9 (w.heap.size + 2) zeroRG) := Lib.hid HZ.out
  obtain ⟨e0, he0⟩ : ∃ e0, e0 = w.heap.size := ⟨_, rfl⟩
  rw [← he0] at HR1 HX1 HZ1
  try rw [← he0]
  have HE := Lib.hid he0
  clear he0 HR HX HZ
  have PO := rof HRX.out xw
  unfold encRv encRG OfSaid at PO
  simp only at PO
  obtain ⟨oy, hoy⟩ : ∃ oy, oy = ofX L xw := ⟨_, rfl⟩
  rw [← hoy] at PO HADO
  clear hoy
  have c0 : v9.cell? ⟨e0 + 1, 0, none⟩ = some (.int .i64 xw) := HX1.out.own.at_ 0 _ rfl
  obtain ⟨y, hy⟩ : ∃ y, y = oy.getD zeroX := ⟨_, rfl⟩
  rw [← hy] at PO
  clear hy
  obtain ⟨yw, ye, yp, ya, yn, yc, yt, jn, jp⟩ := y
  unfold encXv encXg at PO
  simp only at PO
  go_wp2_with (first | (refine load_rgm rfl (.tmp 2) rfl e0 ⟨e, r, M, a, n, c, L, Y⟩ rfl HR1.out ?_) | fail)
  refine PO.mono ?_
  rintro e1 v8 ⟨rfl, B8⟩
  have LA := ((Grw.refl v8).alloc (.cells #[.int .i64 yw, .int .u64 ye, .int .i64 yp, .slice ya yn yc, .int .u64 jn, .int .i64 jp] 38)).below
  have HR := Lib.hid ((HR1.out.below B8).below LA)
  have HX := Lib.hid ((HX1.out.below B8).below LA)
  have HZ := Lib.hid ((HZ1.out.below B8).below LA)
  have HRX2 := Lib.hid ((HRX.out.later B8).later LA)
  have HBL2 := Lib.hid ((HBL.out.trans (B8.mono HBL.out.size)).trans (LA.mono (Nat.le_trans HBL.out.size B8.size)))
  clear PO B8 LA HR1 HX1 HZ1 HRX HBL c0
  go_upto_region 2 with fail
  generalize (v8.alloc (.cells #[.int .i64 yw, .int .u64 ye, .int .i64 yp, .slice ya yn yc, .int .u64 jn, .int .i64 jp] 38)) = v0 at *
  have HRX := Lib.hid HRX2.out
  have HBL := Lib.hid HBL2.out
  clear HRX2 HBL2
  cases oy with
  | some y =>
    have HOK : Hid (adOk ⟨e, r, M, a, n, c, L, Y⟩ ⟨xw, xe, xp, xa, xn, xc, cnt, ⟨kn, kp⟩⟩ = false) := Lib.hid (by rw [HADO.out]; rfl)
    clear HADO HLT0
    go_wp2_with (first | (refine load_rgm rfl (.tmp 2) rfl e0 ⟨e, r, M, a, n, c, L, Y⟩ rfl HR.out ?_) | (refine store_rgm rfl (.tmp 4) (.tmp 24) rfl (e0 + 2) ⟨e, r, M, a, n, c, L, Y⟩ rfl rfl HZ.out ?_) | fail)
    have HZ2 := Lib.hid (setRow_heap _ _ _ _ _ _ HZ.out : RgB (v0.setRow (e0 + 2) (encRG ⟨e, r, M, a, n, c, L, Y⟩).toArray) (e0 + 2) ⟨e, r, M, a, n, c, L, Y⟩)
    (try simp only [Exit.inBlock, Exit.then])
    exact bodyPost_ret (results_rgp rfl _ _ (e0 + 2) rfl HZ2.out) rfl ⟨⟨e, r, M, a, n, c, L, Y⟩, by rw [HOK.out]; rfl, fun _ => rfl, fun h => absurd h (by rw [HOK.out]; decide), HRX.out.moved fun j cur hj => setRow_other _ _ _ _ (fun e => by
      subst e
      have := hj.symm.trans HZ.out.own.is
      injection this with e1
      injection e1 with _ e2 _
      exact absurd e2 (by decide)), ⟨HBL.out.os, HBL.out.tape, HBL.out.output, by rw [size_setRow]; exact HBL.out.size, fun k hk => (setRow_other _ _ _ _ (by have := HE.out; omega)).trans (HBL.out.block k hk)⟩⟩
  | none =>
    have PM := rmember M xw v0 HRX.out.m
    obtain ⟨mm, hmm⟩ : ∃ mm, mm = mem M xw := ⟨_, rfl⟩
    rw [← hmm] at PM HADO
    clear hmm
    have c1 : v0.cell? ⟨e0, 2, none⟩ = some (.int .u64 (M : Int)) := HR.out.c1
    have c0 : v0.cell? ⟨e0 + 1, 0, none⟩ = some (.int .i64 xw) := HX.out.own.at_ 0 _ rfl
    go_wp2_with fail
    refine PM.mono ?_
    rintro e1 v7 ⟨rfl, rfl⟩
    clear PM c1 c0
    cases mm with
    | false =>
      have HOK : Hid (adOk ⟨e, r, M, a, n, c, L, Y⟩ ⟨xw, xe, xp, xa, xn, xc, cnt, ⟨kn, kp⟩⟩ = false) := Lib.hid (by rw [HADO.out]; rfl)
      clear HADO HLT0
      go_wp2_with (first | (refine load_rgm rfl (.tmp 2) rfl e0 ⟨e, r, M, a, n, c, L, Y⟩ rfl HR.out ?_) | (refine store_rgm rfl (.tmp 4) (.tmp 24) rfl (e0 + 2) ⟨e, r, M, a, n, c, L, Y⟩ rfl rfl HZ.out ?_) | fail)
      have HZ2 := Lib.hid (setRow_heap _ _ _ _ _ _ HZ.out : RgB (v0.setRow (e0 + 2) (encRG ⟨e, r, M, a, n, c, L, Y⟩).toArray) (e0 + 2) ⟨e, r, M, a, n, c, L, Y⟩)
      (try simp only [Exit.inBlock, Exit.then])
      exact bodyPost_ret (results_rgp rfl _ _ (e0 + 2) rfl HZ2.out) rfl ⟨⟨e, r, M, a, n, c, L, Y⟩, by rw [HOK.out]; rfl, fun _ => rfl, fun h => absurd h (by rw [HOK.out]; decide), HRX.out.moved fun j cur hj => setRow_other _ _ _ _ (fun e => by
        subst e
        have := hj.symm.trans HZ.out.own.is
        injection this with e1
        injection e1 with _ e2 _
        exact absurd e2 (by decide)), ⟨HBL.out.os, HBL.out.tape, HBL.out.output, by rw [size_setRow]; exact HBL.out.size, fun k hk => (setRow_other _ _ _ _ (by have := HE.out; omega)).trans (HBL.out.block k hk)⟩⟩
    | true =>
      have HOK : Hid (adOk ⟨e, r, M, a, n, c, L, Y⟩ ⟨xw, xe, xp, xa, xn, xc, cnt, ⟨kn, kp⟩⟩ = true) := Lib.hid (by rw [HADO.out]; rfl)
      have HLT := Lib.hid (HLT0.out HOK.out)
      clear HADO HLT0
      go_upto_region 4 with fail
      have D0 := (Grw.refl v0).drew.below
      have HRb := Lib.hid (HR.out.below D0)
      have HXb := Lib.hid (HX.out.below D0)
      have HZb := Lib.hid (HZ.out.below D0)
      have HRXb := Lib.hid (HRX.out.later D0)
      have HBLb := Lib.hid (HBL.out.trans (D0.mono HBL.out.size))
      clear HR HX HZ HRX HBL D0
      refine wp_region_held_drew (S := fun w' => XgB w' (e0 + 1) ⟨xw, xe, xp, xa, xn, xc, cnt, ⟨kn, kp⟩⟩) (by kernel_rfl) HXb.out (fun hHeld => ?_)
      generalize v0.drew = v0 at *
      have HR := Lib.hid HRb.out
      have HX := Lib.hid HXb.out
      have HZ := Lib.hid HZb.out
      have HRX := Lib.hid HRXb.out
      have HBL := Lib.hid HBLb.out
      clear HRb HXb HZb HRXb HBLb
      have A0 := Lib.hid (Below.refl v0.heap.size v0)
      refine stake (i := 1) (v := (.pointer (some ⟨e0, 3, none⟩))) 26 rfl (by kernel_rfl) (by kernel_rfl) (by kernel_rfl) (by kernel_rfl) (fun _ _ _ h => h) (.inl ⟨by kernel_rfl, fun w' hS => by (go_simp)⟩) hHeld ?_
      (try simp only [Act.put, List.setIfInBounds_toArray, List.set_cons_zero, List.set_cons_succ])
      refine stake (i := 4) (v := (.agg #[.int .i64 xw, .int .u64 xe, .int .i64 xp, .slice xa xn xc, .int .u64 kn, .int .i64 kp])) 29 rfl (by kernel_rfl) (by kernel_rfl) (by kernel_rfl) (by kernel_rfl) (fun _ _ _ h => h) (yields_xgb (by kernel_rfl) (.tmp 3) rfl (e0 + 1) (by kernel_rfl) (m := ⟨xw, xe, xp, xa, xn, xc, cnt, ⟨kn, kp⟩⟩) (fun _ h => h)) hHeld ?_
      (try simp only [Act.put, List.setIfInBounds_toArray, List.set_cons_zero, List.set_cons_succ])
      refine wpAnyH_ready (rs := [0, 2, 5]) (by kernel_rfl) (by simp) (AllReadyH.cons rfl (fun K hK => ?_) (AllReadyH.cons rfl (fun K hK => ?_) (AllReadyH.cons rfl (fun K hK => ?_) AllReadyH.nil)))
      · clear hHeld
        rw [if_pos (by kernel_rfl)]
        go_simp
        have Q1 := World.ownsRow_made (e := 38) (size := 6) v0 #[] 0 (Nat.le_refl _) (Nat.zero_le _) (by simp)
        have A1 := Lib.hid (A0.out.trans (((Grw.refl v0).alloc (.cells #[] 38)).below.mono A0.out.size))
        obtain ⟨nb, hnb⟩ : ∃ nb, nb = v0.heap.size := ⟨_, rfl⟩
        rw [← hnb] at Q1
        try rw [← hnb]
        have hbn : v0.heap.size ≤ nb := by rw [hnb]; exact A0.out.size
        have hz1 : nb ≤ (v0.alloc (.cells #[] 38)).heap.size := by rw [hnb]; simp
        generalize (v0.alloc (.cells #[] 38)) = v1 at *
        clear hnb  
        refine hK.out _ _ (HX.out.below A1.out) (fun hHeld => ?_)
        clear hK K
        (try simp only [Act.put, List.setIfInBounds_toArray, List.set_cons_zero, List.set_cons_succ])
        refine wpAnyH_ready (rs := [2, 5]) (by kernel_rfl) (by simp) (AllReadyH.cons rfl (fun K hK => ?_) (AllReadyH.cons rfl (fun K hK => ?_) AllReadyH.nil))
        · clear hHeld
          rw [if_pos (by kernel_rfl)]
          have c3 := (HR.out.below A1.out).c2
          go_simp
          clear c3
          refine hK.out _ _ (HX.out.below A1.out) (fun hHeld => ?_)
          clear hK K
          (try simp only [Act.put, List.setIfInBounds_toArray, List.set_cons_zero, List.set_cons_succ])
          refine wpAnyH_ready (rs := [3, 5]) (by kernel_rfl) (by simp) (AllReadyH.cons rfl (fun K hK => ?_) (AllReadyH.cons rfl (fun K hK => ?_) AllReadyH.nil))
          · clear hHeld
            rw [if_pos (by kernel_rfl)]
            refine wp_append_xg v1 (.tmp 25) (.tmp 27) rfl nb (.slice (some ⟨nb, 0, none⟩) 0 0) 0 [] rfl Q1 a n c L rfl HRX.out.nil ((HRX.out.later A1.out).at_) (by omega) hz1 ?_
            intro va3 v3 Q3 G3
            have A3 := Lib.hid (A1.out.grown G3 A1.out.size (fun j hj => by have := own_behind Q1 j hj; omega))
            have hz3 : nb ≤ v3.heap.size := Nat.le_trans hz1 G3.size
            clear A1 G3 Q1
            refine hK.out _ _ (HX.out.below A3.out) (fun hHeld => ?_)
            clear hK K
            (try simp only [Act.put, List.setIfInBounds_toArray, List.set_cons_zero, List.set_cons_succ])
            refine wpAnyH_ready (rs := [5]) (by kernel_rfl) (by simp) (AllReadyH.cons rfl (fun K hK => ?_) AllReadyH.nil)
            clear hHeld
            rw [if_pos (by kernel_rfl)]
            go_simp
            have X4 : Hid (XgB (v3.alloc (.cells #[.int .i64 xw, .int .u64 xe, .int .i64 xp, .slice xa xn xc, .int .u64 kn, .int .i64 kp] 38)) v3.heap.size ⟨xw, xe, xp, xa, xn, xc, cnt, ⟨kn, kp⟩⟩) := Lib.hid (XgB.new v3 ⟨xw, xe, xp, xa, xn, xc, cnt, ⟨kn, kp⟩⟩)
            have A4 := Lib.hid (A3.out.trans (((Grw.refl v3).alloc (.cells #[.int .i64 xw, .int .u64 xe, .int .i64 xp, .slice xa xn xc, .int .u64 kn, .int .i64 kp] 38)).below.mono A3.out.size))
            have Q4 := Q3.alloc (.cells #[.int .i64 xw, .int .u64 xe, .int .i64 xp, .slice xa xn xc, .int .u64 kn, .int .i64 kp] 38)
            have hq4 := Q3.lt
            have hz4 : nb ≤ (v3.alloc (.cells #[.int .i64 xw, .int .u64 xe, .int .i64 xp, .slice xa xn xc, .int .u64 kn, .int .i64 kp] 38)).heap.size := Nat.le_trans hz3 (by simp)
            obtain ⟨cb, hcbe⟩ : ∃ cb, cb = v3.heap.size := ⟨_, rfl⟩
            rw [← hcbe] at X4
            try rw [← hcbe]
            generalize (v3.alloc (.cells #[.int .i64 xw, .int .u64 xe, .int .i64 xp, .slice xa xn xc, .int .u64 kn, .int .i64 kp] 38)) = v4 at *
            clear hcbe A3 hq4 Q3
            refine hK.out _ _ (HX.out.below A4.out) (fun hHeld => ?_)
            clear hK K
            (try simp only [Act.put, List.setIfInBounds_toArray, List.set_cons_zero, List.set_cons_succ])
            refine wpAnyH_ready (rs := [6]) (by kernel_rfl) (by simp) (AllReadyH.cons rfl (fun K hK => ?_) AllReadyH.nil)
            clear hHeld
            rw [if_pos (by kernel_rfl)]
            refine wp_append_xg v4 (.tmp 28) (.tmp 30) rfl nb va3 (0 + n) _ rfl Q4 (some ⟨cb, 0, none⟩) 1 1 [⟨xw, xe, xp, xa, xn, xc, cnt, ⟨kn, kp⟩⟩] rfl (fun e => by cases e) (lst_xg1 X4.out) (by omega) hz4 ?_
            intro vz v5 Q5 G5
            have A5 := Lib.hid (A4.out.grown G5 A4.out.size (fun j hj => by have := own_behind Q4 j hj; omega))
            obtain ⟨za, zc, rfl⟩ := own_form' (own_eq Q5 (show 0 + n + 1 = n + 1 by omega) rfl)
            have HQ := Lib.hid (own_eq (n' := n + 1) (xs' := flat encXg (L ++ [⟨xw, xe, xp, xa, xn, xc, cnt, ⟨kn, kp⟩⟩])) Q5 (by omega) (by rw [flat_append, List.nil_append]))
            clear A4 G5 Q4 Q5
            refine hK.out _ _ (HX.out.below A5.out) (fun hHeld => ?_)
            clear hK K
            (try simp only [Act.put, List.setIfInBounds_toArray, List.set_cons_zero, List.set_cons_succ])
            refine stake (i := 7) (v := (.pointer (some ⟨e0, 3, none⟩))) 32 rfl (by kernel_rfl) (by kernel_rfl) (by kernel_rfl) (by kernel_rfl) (fun _ _ _ h => h) (.inl ⟨by kernel_rfl, fun w' hS => by (go_simp)⟩) hHeld ?_
            (try simp only [Act.put, List.setIfInBounds_toArray, List.set_cons_zero, List.set_cons_succ])
            refine wpAnyH_ready (rs := [8]) (by kernel_rfl) (by simp) (AllReadyH.cons rfl (fun K hK => ?_) AllReadyH.nil)
            clear hHeld
            rw [if_pos (by kernel_rfl)]
            have f3 := (HR.out.below A5.out).own.free 3
            have c3 := (HR.out.below A5.out).c2
            go_simp
            clear f3 c3
            have AD := Lib.hid (AdSt.make HR.out HX.out HZ.out HRX.out HBL.out HE.out A5.out HQ.out hbn HLT.out HXI.out)
            refine hK.out _ _ AD.out.x (fun hHeld => ?_)
            clear hK K hHeld A5 HQ
            (try simp only [Act.put, List.setIfInBounds_toArray, List.set_cons_zero, List.set_cons_succ])
            refine wpAnyH_done (by kernel_rfl) ?_ _
            generalize (v5.setCell ⟨e0, 3, none⟩ (.slice za (n + 1) zc)) = u1 at *
            go_upto_region 5 with fail
            have AE := Lib.hid (AD.out.later (Grw.refl u1).drew.below)
            clear AD
            refine wp_region_held_drew (S := fun w' => RgB w' e0 ⟨e, r, M, za, n + 1, zc, L ++ [(⟨xw, xe, xp, xa, xn, xc, cnt, ⟨kn, kp⟩⟩ : Xg)], Y⟩) (by kernel_rfl) AE.out.b (fun hHeld => ?_)
            generalize u1.drew = u2 at *
            refine stake (i := 0) (v := encRv ⟨e, r, M, za, n + 1, zc, L ++ [(⟨xw, xe, xp, xa, xn, xc, cnt, ⟨kn, kp⟩⟩ : Xg)], Y⟩) 33 rfl (by kernel_rfl) (by kernel_rfl) (by kernel_rfl) (by kernel_rfl) (fun _ _ _ h => h) (yields_rgm (by kernel_rfl) (.tmp 2) rfl e0 (by kernel_rfl) (fun _ h => h)) hHeld ?_
            (try simp only [Act.put, List.setIfInBounds_toArray, List.set_cons_zero, List.set_cons_succ])
            refine stake (i := 1) (v := encRv ⟨e, r, M, za, n + 1, zc, L ++ [(⟨xw, xe, xp, xa, xn, xc, cnt, ⟨kn, kp⟩⟩ : Xg)], Y⟩) 34 rfl (by kernel_rfl) (by kernel_rfl) (by kernel_rfl) (by kernel_rfl) (fun _ _ _ h => h) (yields_rgm (by kernel_rfl) (.tmp 2) rfl e0 (by kernel_rfl) (fun _ h => h)) hHeld ?_
            (try simp only [Act.put, List.setIfInBounds_toArray, List.set_cons_zero, List.set_cons_succ])
            have PD := rtold (w := u2) (R := ⟨e, r, M, za, n + 1, zc, L ++ [(⟨xw, xe, xp, xa, xn, xc, cnt, ⟨kn, kp⟩⟩ : Xg)], Y⟩) HRX.out.m
            refine wpAnyH_ready (rs := [2]) (by kernel_rfl) (by simp) (AllReadyH.cons rfl (fun K hK => ?_) AllReadyH.nil)
            clear hHeld
            rw [if_pos (by kernel_rfl)]
            go_simp
            refine PD.mono ?_
            rintro e7 u3 ⟨rfl, B7⟩
            have AF := Lib.hid (AE.out.later B7)
            clear PD B7 AE
            refine hK.out _ _ AF.out.b (fun hHeld => ?_)
            clear hK K
            (try simp only [Act.put, List.setIfInBounds_toArray, List.set_cons_zero, List.set_cons_succ])
            refine wpAnyH_ready (rs := [3]) (by kernel_rfl) (by simp) (AllReadyH.cons rfl (fun K hK => ?_) AllReadyH.nil)
            clear hHeld
            rw [if_pos (by kernel_rfl)]
            refine wp_store_row 33 (.tmp 4) (.tmp 33) rfl (e0 + 2) (encRG ⟨e, r, M, za, n + 1, zc, L ++ [(⟨xw, xe, xp, xa, xn, xc, cnt, ⟨kn, kp⟩⟩ : Xg)], Y⟩).toArray rfl rfl 33 _ AF.out.z rg_size rfl (rg_one1 _) ?_
            have AG := Lib.hid (AF.out.store ⟨e, r, M, za, n + 1, zc, L ++ [(⟨xw, xe, xp, xa, xn, xc, cnt, ⟨kn, kp⟩⟩ : Xg)], Y⟩)
            refine hK.out _ _ AG.out.b (fun hHeld => ?_)
            clear hK K AF
            generalize (u3.setRow (e0 + 2) (encRG ⟨e, r, M, za, n + 1, zc, L ++ [(⟨xw, xe, xp, xa, xn, xc, cnt, ⟨kn, kp⟩⟩ : Xg)], Y⟩).toArray) = u4 at *
            (try simp only [Act.put, List.setIfInBounds_toArray, List.set_cons_zero, List.set_cons_succ])
            refine wpAnyH_ready (rs := [4]) (by kernel_rfl) (by simp) (AllReadyH.cons rfl (fun K hK => ?_) AllReadyH.nil)
            clear hHeld
            rw [if_pos (by kernel_rfl)]
            go_simp
            refine hK.out _ _ AG.out.b (fun hHeld => ?_)
            clear hK K hHeld
            (try simp only [Act.put, List.setIfInBounds_toArray, List.set_cons_zero, List.set_cons_succ])
            refine wpAnyH_done (by kernel_rfl) ?_ _
            go_wp2_with fail
            (try simp only [Exit.inBlock, Exit.then])
            exact bodyPost_ret (results_rgp rfl _ _ (e0 + 2) rfl AG.out.z) rfl ⟨⟨e, r, M, za, n + 1, zc, L ++ [(⟨xw, xe, xp, xa, xn, xc, cnt, ⟨kn, kp⟩⟩ : Xg)], Y⟩, by rw [HOK.out]; rfl, fun h => absurd h (by rw [HOK.out]; decide), fun _ => ⟨za, zc, rfl⟩, AG.out.r, AG.out.bel⟩
          · clear hHeld
            rw [if_pos (by kernel_rfl)]
            go_simp
            have X6 : Hid (XgB (v1.alloc (.cells #[.int .i64 xw, .int .u64 xe, .int .i64 xp, .slice xa xn xc, .int .u64 kn, .int .i64 kp] 38)) v1.heap.size ⟨xw, xe, xp, xa, xn, xc, cnt, ⟨kn, kp⟩⟩) := Lib.hid (XgB.new v1 ⟨xw, xe, xp, xa, xn, xc, cnt, ⟨kn, kp⟩⟩)
            have A6 := Lib.hid (A1.out.trans (((Grw.refl v1).alloc (.cells #[.int .i64 xw, .int .u64 xe, .int .i64 xp, .slice xa xn xc, .int .u64 kn, .int .i64 kp] 38)).below.mono A1.out.size))
            have Q6 := Q1.alloc (.cells #[.int .i64 xw, .int .u64 xe, .int .i64 xp, .slice xa xn xc, .int .u64 kn, .int .i64 kp] 38)
            have hq6 := Q1.lt
            have hz6 : nb ≤ (v1.alloc (.cells #[.int .i64 xw, .int .u64 xe, .int .i64 xp, .slice xa xn xc, .int .u64 kn, .int .i64 kp] 38)).heap.size := Nat.le_trans hz1 (by simp)
            obtain ⟨cb, hcbe⟩ : ∃ cb, cb = v1.heap.size := ⟨_, rfl⟩
            rw [← hcbe] at X6
            try rw [← hcbe]
            have hcb : cb ≠ nb := by have := (hq6 nb rfl).2; omega
            generalize (v1.alloc (.cells #[.int .i64 xw, .int .u64 xe, .int .i64 xp, .slice xa xn xc, .int .u64 kn, .int .i64 kp] 38)) = v6 at *
            clear hcbe A1 hq6 Q1
            refine hK.out _ _ (HX.out.below A6.out) (fun hHeld => ?_)
            clear hK K
            (try simp only [Act.put, List.setIfInBounds_toArray, List.set_cons_zero, List.set_cons_succ])
            refine wpAnyH_ready (rs := [3]) (by kernel_rfl) (by simp) (AllReadyH.cons rfl (fun K hK => ?_) AllReadyH.nil)
            clear hHeld
            rw [if_pos (by kernel_rfl)]
            refine wp_append_xg v6 (.tmp 25) (.tmp 27) rfl nb (.slice (some ⟨nb, 0, none⟩) 0 0) 0 [] rfl Q6 a n c L rfl HRX.out.nil ((HRX.out.later A6.out).at_) (by omega) hz6 ?_
            intro va7 v7 Q7 G7
            have A7 := Lib.hid (A6.out.grown G7 A6.out.size (fun j hj => by have := own_behind Q6 j hj; omega))
            have hz7 : nb ≤ v7.heap.size := Nat.le_trans hz6 G7.size
            have X7 := Lib.hid (X6.out.kept (G7.block cb (Own.lt X6.out) (fun e => by simp [Value.ownBlock] at e; omega)))
            clear X6
            clear A6 G7 Q6
            refine hK.out _ _ (HX.out.below A7.out) (fun hHeld => ?_)
            clear hK K
            (try simp only [Act.put, List.setIfInBounds_toArray, List.set_cons_zero, List.set_cons_succ])
            refine wpAnyH_ready (rs := [6]) (by kernel_rfl) (by simp) (AllReadyH.cons rfl (fun K hK => ?_) AllReadyH.nil)
            clear hHeld
            rw [if_pos (by kernel_rfl)]
            refine wp_append_xg v7 (.tmp 28) (.tmp 30) rfl nb va7 (0 + n) _ rfl Q7 (some ⟨cb, 0, none⟩) 1 1 [⟨xw, xe, xp, xa, xn, xc, cnt, ⟨kn, kp⟩⟩] rfl (fun e => by cases e) (lst_xg1 X7.out) (by omega) hz7 ?_
            intro vz v8 Q8 G8
            have A8 := Lib.hid (A7.out.grown G8 A7.out.size (fun j hj => by have := own_behind Q7 j hj; omega))
            obtain ⟨za, zc, rfl⟩ := own_form' (own_eq Q8 (show 0 + n + 1 = n + 1 by omega) rfl)
            have HQ := Lib.hid (own_eq (n' := n + 1) (xs' := flat encXg (L ++ [⟨xw, xe, xp, xa, xn, xc, cnt, ⟨kn, kp⟩⟩])) Q8 (by omega) (by rw [flat_append, List.nil_append]))
            clear A7 G8 Q7 Q8
            refine hK.out _ _ (HX.out.below A8.out) (fun hHeld => ?_)
            clear hK K
            (try simp only [Act.put, List.setIfInBounds_toArray, List.set_cons_zero, List.set_cons_succ])
            refine stake (i := 7) (v := (.pointer (some ⟨e0, 3, none⟩))) 32 rfl (by kernel_rfl) (by kernel_rfl) (by kernel_rfl) (by kernel_rfl) (fun _ _ _ h => h) (.inl ⟨by kernel_rfl, fun w' hS => by (go_simp)⟩) hHeld ?_
            (try simp only [Act.put, List.setIfInBounds_toArray, List.set_cons_zero, List.set_cons_succ])
            refine wpAnyH_ready (rs := [8]) (by kernel_rfl) (by simp) (AllReadyH.cons rfl (fun K hK => ?_) AllReadyH.nil)
            clear hHeld
            rw [if_pos (by kernel_rfl)]
            have f3 := (HR.out.below A8.out).own.free 3
            have c3 := (HR.out.below A8.out).c2
            go_simp
            clear f3 c3
            have AD := Lib.hid (AdSt.make HR.out HX.out HZ.out HRX.out HBL.out HE.out A8.out HQ.out hbn HLT.out HXI.out)
            refine hK.out _ _ AD.out.x (fun hHeld => ?_)
            clear hK K hHeld A8 HQ
            (try simp only [Act.put, List.setIfInBounds_toArray, List.set_cons_zero, List.set_cons_succ])
            refine wpAnyH_done (by kernel_rfl) ?_ _
            generalize (v8.setCell ⟨e0, 3, none⟩ (.slice za (n + 1) zc)) = u1 at *
            go_upto_region 5 with fail
            have AE := Lib.hid (AD.out.later (Grw.refl u1).drew.below)
            clear AD
            refine wp_region_held_drew (S := fun w' => RgB w' e0 ⟨e, r, M, za, n + 1, zc, L ++ [(⟨xw, xe, xp, xa, xn, xc, cnt, ⟨kn, kp⟩⟩ : Xg)], Y⟩) (by kernel_rfl) AE.out.b (fun hHeld => ?_)
            generalize u1.drew = u2 at *
            refine stake (i := 0) (v := encRv ⟨e, r, M, za, n + 1, zc, L ++ [(⟨xw, xe, xp, xa, xn, xc, cnt, ⟨kn, kp⟩⟩ : Xg)], Y⟩) 33 rfl (by kernel_rfl) (by kernel_rfl) (by kernel_rfl) (by kernel_rfl) (fun _ _ _ h => h) (yields_rgm (by kernel_rfl) (.tmp 2) rfl e0 (by kernel_rfl) (fun _ h => h)) hHeld ?_
            (try simp only [Act.put, List.setIfInBounds_toArray, List.set_cons_zero, List.set_cons_succ])
            refine stake (i := 1) (v := encRv ⟨e, r, M, za, n + 1, zc, L ++ [(⟨xw, xe, xp, xa, xn, xc, cnt, ⟨kn, kp⟩⟩ : Xg)], Y⟩) 34 rfl (by kernel_rfl) (by kernel_rfl) (by kernel_rfl) (by kernel_rfl) (fun _ _ _ h => h) (yields_rgm (by kernel_rfl) (.tmp 2) rfl e0 (by kernel_rfl) (fun _ h => h)) hHeld ?_
            (try simp only [Act.put, List.setIfInBounds_toArray, List.set_cons_zero, List.set_cons_succ])
            have PD := rtold (w := u2) (R := ⟨e, r, M, za, n + 1, zc, L ++ [(⟨xw, xe, xp, xa, xn, xc, cnt, ⟨kn, kp⟩⟩ : Xg)], Y⟩) HRX.out.m
            refine wpAnyH_ready (rs := [2]) (by kernel_rfl) (by simp) (AllReadyH.cons rfl (fun K hK => ?_) AllReadyH.nil)
            clear hHeld
            rw [if_pos (by kernel_rfl)]
            go_simp
            refine PD.mono ?_
            rintro e7 u3 ⟨rfl, B7⟩
            have AF := Lib.hid (AE.out.later B7)
            clear PD B7 AE
            refine hK.out _ _ AF.out.b (fun hHeld => ?_)
            clear hK K
            (try simp only [Act.put, List.setIfInBounds_toArray, List.set_cons_zero, List.set_cons_succ])
            refine wpAnyH_ready (rs := [3]) (by kernel_rfl) (by simp) (AllReadyH.cons rfl (fun K hK => ?_) AllReadyH.nil)
            clear hHeld
            rw [if_pos (by kernel_rfl)]
            refine wp_store_row 33 (.tmp 4) (.tmp 33) rfl (e0 + 2) (encRG ⟨e, r, M, za, n + 1, zc, L ++ [(⟨xw, xe, xp, xa, xn, xc, cnt, ⟨kn, kp⟩⟩ : Xg)], Y⟩).toArray rfl rfl 33 _ AF.out.z rg_size rfl (rg_one1 _) ?_
            have AG := Lib.hid (AF.out.store ⟨e, r, M, za, n + 1, zc, L ++ [(⟨xw, xe, xp, xa, xn, xc, cnt, ⟨kn, kp⟩⟩ : Xg)], Y⟩)
            refine hK.out _ _ AG.out.b (fun hHeld => ?_)
            clear hK K AF
            generalize (u3.setRow (e0 + 2) (encRG ⟨e, r, M, za, n + 1, zc, L ++ [(⟨xw, xe, xp, xa, xn, xc, cnt, ⟨kn, kp⟩⟩ : Xg)], Y⟩).toArray) = u4 at *
            (try simp only [Act.put, List.setIfInBounds_toArray, List.set_cons_zero, List.set_cons_succ])
            refine wpAnyH_ready (rs := [4]) (by kernel_rfl) (by simp) (AllReadyH.cons rfl (fun K hK => ?_) AllReadyH.nil)
            clear hHeld
            rw [if_pos (by kernel_rfl)]
            go_simp
            refine hK.out _ _ AG.out.b (fun hHeld => ?_)
            clear hK K hHeld
            (try simp only [Act.put, List.setIfInBounds_toArray, List.set_cons_zero, List.set_cons_succ])
            refine wpAnyH_done (by kernel_rfl) ?_ _
            go_wp2_with fail
            (try simp only [Exit.inBlock, Exit.then])
            exact bodyPost_ret (results_rgp rfl _ _ (e0 + 2) rfl AG.out.z) rfl ⟨⟨e, r, M, za, n + 1, zc, L ++ [(⟨xw, xe, xp, xa, xn, xc, cnt, ⟨kn, kp⟩⟩ : Xg)], Y⟩, by rw [HOK.out]; rfl, fun h => absurd h (by rw [HOK.out]; decide), fun _ => ⟨za, zc, rfl⟩, AG.out.r, AG.out.bel⟩
        · clear hHeld
          rw [if_pos (by kernel_rfl)]
          go_simp
          have X9 : Hid (XgB (v1.alloc (.cells #[.int .i64 xw, .int .u64 xe, .int .i64 xp, .slice xa xn xc, .int .u64 kn, .int .i64 kp] 38)) v1.heap.size ⟨xw, xe, xp, xa, xn, xc, cnt, ⟨kn, kp⟩⟩) := Lib.hid (XgB.new v1 ⟨xw, xe, xp, xa, xn, xc, cnt, ⟨kn, kp⟩⟩)
          have A9 := Lib.hid (A1.out.trans (((Grw.refl v1).alloc (.cells #[.int .i64 xw, .int .u64 xe, .int .i64 xp, .slice xa xn xc, .int .u64 kn, .int .i64 kp] 38)).below.mono A1.out.size))
          have Q9 := Q1.alloc (.cells #[.int .i64 xw, .int .u64 xe, .int .i64 xp, .slice xa xn xc, .int .u64 kn, .int .i64 kp] 38)
          have hq9 := Q1.lt
          have hz9 : nb ≤ (v1.alloc (.cells #[.int .i64 xw, .int .u64 xe, .int .i64 xp, .slice xa xn xc, .int .u64 kn, .int .i64 kp] 38)).heap.size := Nat.le_trans hz1 (by simp)
          obtain ⟨cb, hcbe⟩ : ∃ cb, cb = v1.heap.size := ⟨_, rfl⟩
          rw [← hcbe] at X9
          try rw [← hcbe]
          have hcb : cb ≠ nb := by have := (hq9 nb rfl).2; omega
          generalize (v1.alloc (.cells #[.int .i64 xw, .int .u64 xe, .int .i64 xp, .slice xa xn xc, .int .u64 kn, .int .i64 kp] 38)) = v9 at *
          clear hcbe A1 hq9 Q1
          refine hK.out _ _ (HX.out.below A9.out) (fun hHeld => ?_)
          clear hK K
          (try simp only [Act.put, List.setIfInBounds_toArray, List.set_cons_zero, List.set_cons_succ])
          refine wpAnyH_ready (rs := [2]) (by kernel_rfl) (by simp) (AllReadyH.cons rfl (fun K hK => ?_) AllReadyH.nil)
          clear hHeld
          rw [if_pos (by kernel_rfl)]
          have c3 := (HR.out.below A9.out).c2
          go_simp
          clear c3
          refine hK.out _ _ (HX.out.below A9.out) (fun hHeld => ?_)
          clear hK K
          (try simp only [Act.put, List.setIfInBounds_toArray, List.set_cons_zero, List.set_cons_succ])
          refine wpAnyH_ready (rs := [3]) (by kernel_rfl) (by simp) (AllReadyH.cons rfl (fun K hK => ?_) AllReadyH.nil)
          clear hHeld
          rw [if_pos (by kernel_rfl)]
          refine wp_append_xg v9 (.tmp 25) (.tmp 27) rfl nb (.slice (some ⟨nb, 0, none⟩) 0 0) 0 [] rfl Q9 a n c L rfl HRX.out.nil ((HRX.out.later A9.out).at_) (by omega) hz9 ?_
          intro va11 v11 Q11 G11
          have A11 := Lib.hid (A9.out.grown G11 A9.out.size (fun j hj => by have := own_behind Q9 j hj; omega))
          have hz11 : nb ≤ v11.heap.size := Nat.le_trans hz9 G11.size
          have X11 := Lib.hid (X9.out.kept (G11.block cb (Own.lt X9.out) (fun e => by simp [Value.ownBlock] at e; omega)))
          clear X9
          clear A9 G11 Q9
          refine hK.out _ _ (HX.out.below A11.out) (fun hHeld => ?_)
          clear hK K
          (try simp only [Act.put, List.setIfInBounds_toArray, List.set_cons_zero, List.set_cons_succ])
          refine wpAnyH_ready (rs := [6]) (by kernel_rfl) (by simp) (AllReadyH.cons rfl (fun K hK => ?_) AllReadyH.nil)
          clear hHeld
          rw [if_pos (by kernel_rfl)]
          refine wp_append_xg v11 (.tmp 28) (.tmp 30) rfl nb va11 (0 + n) _ rfl Q11 (some ⟨cb, 0, none⟩) 1 1 [⟨xw, xe, xp, xa, xn, xc, cnt, ⟨kn, kp⟩⟩] rfl (fun e => by cases e) (lst_xg1 X11.out) (by omega) hz11 ?_
          intro vz v12 Q12 G12
          have A12 := Lib.hid (A11.out.grown G12 A11.out.size (fun j hj => by have := own_behind Q11 j hj; omega))
          obtain ⟨za, zc, rfl⟩ := own_form' (own_eq Q12 (show 0 + n + 1 = n + 1 by omega) rfl)
          have HQ := Lib.hid (own_eq (n' := n + 1) (xs' := flat encXg (L ++ [⟨xw, xe, xp, xa, xn, xc, cnt, ⟨kn, kp⟩⟩])) Q12 (by omega) (by rw [flat_append, List.nil_append]))
          clear A11 G12 Q11 Q12
          refine hK.out _ _ (HX.out.below A12.out) (fun hHeld => ?_)
          clear hK K
          (try simp only [Act.put, List.setIfInBounds_toArray, List.set_cons_zero, List.set_cons_succ])
          refine stake (i := 7) (v := (.pointer (some ⟨e0, 3, none⟩))) 32 rfl (by kernel_rfl) (by kernel_rfl) (by kernel_rfl) (by kernel_rfl) (fun _ _ _ h => h) (.inl ⟨by kernel_rfl, fun w' hS => by (go_simp)⟩) hHeld ?_
          (try simp only [Act.put, List.setIfInBounds_toArray, List.set_cons_zero, List.set_cons_succ])
          refine wpAnyH_ready (rs := [8]) (by kernel_rfl) (by simp) (AllReadyH.cons rfl (fun K hK => ?_) AllReadyH.nil)
          clear hHeld
          rw [if_pos (by kernel_rfl)]
          have f3 := (HR.out.below A12.out).own.free 3
          have c3 := (HR.out.below A12.out).c2
          go_simp
          clear f3 c3
          have AD := Lib.hid (AdSt.make HR.out HX.out HZ.out HRX.out HBL.out HE.out A12.out HQ.out hbn HLT.out HXI.out)
          refine hK.out _ _ AD.out.x (fun hHeld => ?_)
          clear hK K hHeld A12 HQ
          (try simp only [Act.put, List.setIfInBounds_toArray, List.set_cons_zero, List.set_cons_succ])
          refine wpAnyH_done (by kernel_rfl) ?_ _
          generalize (v12.setCell ⟨e0, 3, none⟩ (.slice za (n + 1) zc)) = u1 at *
          go_upto_region 5 with fail
          have AE := Lib.hid (AD.out.later (Grw.refl u1).drew.below)
          clear AD
          refine wp_region_held_drew (S := fun w' => RgB w' e0 ⟨e, r, M, za, n + 1, zc, L ++ [(⟨xw, xe, xp, xa, xn, xc, cnt, ⟨kn, kp⟩⟩ : Xg)], Y⟩) (by kernel_rfl) AE.out.b (fun hHeld => ?_)
          generalize u1.drew = u2 at *
          refine stake (i := 0) (v := encRv ⟨e, r, M, za, n + 1, zc, L ++ [(⟨xw, xe, xp, xa, xn, xc, cnt, ⟨kn, kp⟩⟩ : Xg)], Y⟩) 33 rfl (by kernel_rfl) (by kernel_rfl) (by kernel_rfl) (by kernel_rfl) (fun _ _ _ h => h) (yields_rgm (by kernel_rfl) (.tmp 2) rfl e0 (by kernel_rfl) (fun _ h => h)) hHeld ?_
          (try simp only [Act.put, List.setIfInBounds_toArray, List.set_cons_zero, List.set_cons_succ])
          refine stake (i := 1) (v := encRv ⟨e, r, M, za, n + 1, zc, L ++ [(⟨xw, xe, xp, xa, xn, xc, cnt, ⟨kn, kp⟩⟩ : Xg)], Y⟩) 34 rfl (by kernel_rfl) (by kernel_rfl) (by kernel_rfl) (by kernel_rfl) (fun _ _ _ h => h) (yields_rgm (by kernel_rfl) (.tmp 2) rfl e0 (by kernel_rfl) (fun _ h => h)) hHeld ?_
          (try simp only [Act.put, List.setIfInBounds_toArray, List.set_cons_zero, List.set_cons_succ])
          have PD := rtold (w := u2) (R := ⟨e, r, M, za, n + 1, zc, L ++ [(⟨xw, xe, xp, xa, xn, xc, cnt, ⟨kn, kp⟩⟩ : Xg)], Y⟩) HRX.out.m
          refine wpAnyH_ready (rs := [2]) (by kernel_rfl) (by simp) (AllReadyH.cons rfl (fun K hK => ?_) AllReadyH.nil)
          clear hHeld
          rw [if_pos (by kernel_rfl)]
          go_simp
          refine PD.mono ?_
          rintro e7 u3 ⟨rfl, B7⟩
          have AF := Lib.hid (AE.out.later B7)
          clear PD B7 AE
          refine hK.out _ _ AF.out.b (fun hHeld => ?_)
          clear hK K
          (try simp only [Act.put, List.setIfInBounds_toArray, List.set_cons_zero, List.set_cons_succ])
          refine wpAnyH_ready (rs := [3]) (by kernel_rfl) (by simp) (AllReadyH.cons rfl (fun K hK => ?_) AllReadyH.nil)
          clear hHeld
          rw [if_pos (by kernel_rfl)]
          refine wp_store_row 33 (.tmp 4) (.tmp 33) rfl (e0 + 2) (encRG ⟨e, r, M, za, n + 1, zc, L ++ [(⟨xw, xe, xp, xa, xn, xc, cnt, ⟨kn, kp⟩⟩ : Xg)], Y⟩).toArray rfl rfl 33 _ AF.out.z rg_size rfl (rg_one1 _) ?_
          have AG := Lib.hid (AF.out.store ⟨e, r, M, za, n + 1, zc, L ++ [(⟨xw, xe, xp, xa, xn, xc, cnt, ⟨kn, kp⟩⟩ : Xg)], Y⟩)
          refine hK.out _ _ AG.out.b (fun hHeld => ?_)
          clear hK K AF
          generalize (u3.setRow (e0 + 2) (encRG ⟨e, r, M, za, n + 1, zc, L ++ [(⟨xw, xe, xp, xa, xn, xc, cnt, ⟨kn, kp⟩⟩ : Xg)], Y⟩).toArray) = u4 at *
          (try simp only [Act.put, List.setIfInBounds_toArray, List.set_cons_zero, List.set_cons_succ])
          refine wpAnyH_ready (rs := [4]) (by kernel_rfl) (by simp) (AllReadyH.cons rfl (fun K hK => ?_) AllReadyH.nil)
          clear hHeld
          rw [if_pos (by kernel_rfl)]
          go_simp
          refine hK.out _ _ AG.out.b (fun hHeld => ?_)
          clear hK K hHeld
          (try simp only [Act.put, List.setIfInBounds_toArray, List.set_cons_zero, List.set_cons_succ])
          refine wpAnyH_done (by kernel_rfl) ?_ _
          go_wp2_with fail
          (try simp only [Exit.inBlock, Exit.then])
          exact bodyPost_ret (results_rgp rfl _ _ (e0 + 2) rfl AG.out.z) rfl ⟨⟨e, r, M, za, n + 1, zc, L ++ [(⟨xw, xe, xp, xa, xn, xc, cnt, ⟨kn, kp⟩⟩ : Xg)], Y⟩, by rw [HOK.out]; rfl, fun h => absurd h (by rw [HOK.out]; decide), fun _ => ⟨za, zc, rfl⟩, AG.out.r, AG.out.bel⟩
      · clear hHeld
        rw [if_pos (by kernel_rfl)]
        have c3 := (HR.out.below A0.out).c2
        go_simp
        clear c3
        refine hK.out _ _ (HX.out.below A0.out) (fun hHeld => ?_)
        clear hK K
        (try simp only [Act.put, List.setIfInBounds_toArray, List.set_cons_zero, List.set_cons_succ])
        refine wpAnyH_ready (rs := [0, 5]) (by kernel_rfl) (by simp) (AllReadyH.cons rfl (fun K hK => ?_) (AllReadyH.cons rfl (fun K hK => ?_) AllReadyH.nil))
        · clear hHeld
          rw [if_pos (by kernel_rfl)]
          go_simp
          have Q14 := World.ownsRow_made (e := 38) (size := 6) v0 #[] 0 (Nat.le_refl _) (Nat.zero_le _) (by simp)
          have A14 := Lib.hid (A0.out.trans (((Grw.refl v0).alloc (.cells #[] 38)).below.mono A0.out.size))
          obtain ⟨nb, hnb⟩ : ∃ nb, nb = v0.heap.size := ⟨_, rfl⟩
          rw [← hnb] at Q14
          try rw [← hnb]
          have hbn : v0.heap.size ≤ nb := by rw [hnb]; exact A0.out.size
          have hz14 : nb ≤ (v0.alloc (.cells #[] 38)).heap.size := by rw [hnb]; simp
          generalize (v0.alloc (.cells #[] 38)) = v14 at *
          clear hnb  
          refine hK.out _ _ (HX.out.below A14.out) (fun hHeld => ?_)
          clear hK K
          (try simp only [Act.put, List.setIfInBounds_toArray, List.set_cons_zero, List.set_cons_succ])
          refine wpAnyH_ready (rs := [3, 5]) (by kernel_rfl) (by simp) (AllReadyH.cons rfl (fun K hK => ?_) (AllReadyH.cons rfl (fun K hK => ?_) AllReadyH.nil))
          · clear hHeld
            rw [if_pos (by kernel_rfl)]
            refine wp_append_xg v14 (.tmp 25) (.tmp 27) rfl nb (.slice (some ⟨nb, 0, none⟩) 0 0) 0 [] rfl Q14 a n c L rfl HRX.out.nil ((HRX.out.later A14.out).at_) (by omega) hz14 ?_
            intro va15 v15 Q15 G15
            have A15 := Lib.hid (A14.out.grown G15 A14.out.size (fun j hj => by have := own_behind Q14 j hj; omega))
            have hz15 : nb ≤ v15.heap.size := Nat.le_trans hz14 G15.size
            clear A14 G15 Q14
            refine hK.out _ _ (HX.out.below A15.out) (fun hHeld => ?_)
            clear hK K
            (try simp only [Act.put, List.setIfInBounds_toArray, List.set_cons_zero, List.set_cons_succ])
            refine wpAnyH_ready (rs := [5]) (by kernel_rfl) (by simp) (AllReadyH.cons rfl (fun K hK => ?_) AllReadyH.nil)
            clear hHeld
            rw [if_pos (by kernel_rfl)]
            go_simp
            have X16 : Hid (XgB (v15.alloc (.cells #[.int .i64 xw, .int .u64 xe, .int .i64 xp, .slice xa xn xc, .int .u64 kn, .int .i64 kp] 38)) v15.heap.size ⟨xw, xe, xp, xa, xn, xc, cnt, ⟨kn, kp⟩⟩) := Lib.hid (XgB.new v15 ⟨xw, xe, xp, xa, xn, xc, cnt, ⟨kn, kp⟩⟩)
            have A16 := Lib.hid (A15.out.trans (((Grw.refl v15).alloc (.cells #[.int .i64 xw, .int .u64 xe, .int .i64 xp, .slice xa xn xc, .int .u64 kn, .int .i64 kp] 38)).below.mono A15.out.size))
            have Q16 := Q15.alloc (.cells #[.int .i64 xw, .int .u64 xe, .int .i64 xp, .slice xa xn xc, .int .u64 kn, .int .i64 kp] 38)
            have hq16 := Q15.lt
            have hz16 : nb ≤ (v15.alloc (.cells #[.int .i64 xw, .int .u64 xe, .int .i64 xp, .slice xa xn xc, .int .u64 kn, .int .i64 kp] 38)).heap.size := Nat.le_trans hz15 (by simp)
            obtain ⟨cb, hcbe⟩ : ∃ cb, cb = v15.heap.size := ⟨_, rfl⟩
            rw [← hcbe] at X16
            try rw [← hcbe]
            generalize (v15.alloc (.cells #[.int .i64 xw, .int .u64 xe, .int .i64 xp, .slice xa xn xc, .int .u64 kn, .int .i64 kp] 38)) = v16 at *
            clear hcbe A15 hq16 Q15
            refine hK.out _ _ (HX.out.below A16.out) (fun hHeld => ?_)
            clear hK K
            (try simp only [Act.put, List.setIfInBounds_toArray, List.set_cons_zero, List.set_cons_succ])
            refine wpAnyH_ready (rs := [6]) (by kernel_rfl) (by simp) (AllReadyH.cons rfl (fun K hK => ?_) AllReadyH.nil)
            clear hHeld
            rw [if_pos (by kernel_rfl)]
            refine wp_append_xg v16 (.tmp 28) (.tmp 30) rfl nb va15 (0 + n) _ rfl Q16 (some ⟨cb, 0, none⟩) 1 1 [⟨xw, xe, xp, xa, xn, xc, cnt, ⟨kn, kp⟩⟩] rfl (fun e => by cases e) (lst_xg1 X16.out) (by omega) hz16 ?_
            intro vz v17 Q17 G17
            have A17 := Lib.hid (A16.out.grown G17 A16.out.size (fun j hj => by have := own_behind Q16 j hj; omega))
            obtain ⟨za, zc, rfl⟩ := own_form' (own_eq Q17 (show 0 + n + 1 = n + 1 by omega) rfl)
            have HQ := Lib.hid (own_eq (n' := n + 1) (xs' := flat encXg (L ++ [⟨xw, xe, xp, xa, xn, xc, cnt, ⟨kn, kp⟩⟩])) Q17 (by omega) (by rw [flat_append, List.nil_append]))
            clear A16 G17 Q16 Q17
            refine hK.out _ _ (HX.out.below A17.out) (fun hHeld => ?_)
            clear hK K
            (try simp only [Act.put, List.setIfInBounds_toArray, List.set_cons_zero, List.set_cons_succ])
            refine stake (i := 7) (v := (.pointer (some ⟨e0, 3, none⟩))) 32 rfl (by kernel_rfl) (by kernel_rfl) (by kernel_rfl) (by kernel_rfl) (fun _ _ _ h => h) (.inl ⟨by kernel_rfl, fun w' hS => by (go_simp)⟩) hHeld ?_
            (try simp only [Act.put, List.setIfInBounds_toArray, List.set_cons_zero, List.set_cons_succ])
            refine wpAnyH_ready (rs := [8]) (by kernel_rfl) (by simp) (AllReadyH.cons rfl (fun K hK => ?_) AllReadyH.nil)
            clear hHeld
            rw [if_pos (by kernel_rfl)]
            have f3 := (HR.out.below A17.out).own.free 3
            have c3 := (HR.out.below A17.out).c2
            go_simp
            clear f3 c3
            have AD := Lib.hid (AdSt.make HR.out HX.out HZ.out HRX.out HBL.out HE.out A17.out HQ.out hbn HLT.out HXI.out)
            refine hK.out _ _ AD.out.x (fun hHeld => ?_)
            clear hK K hHeld A17 HQ
            (try simp only [Act.put, List.setIfInBounds_toArray, List.set_cons_zero, List.set_cons_succ])
            refine wpAnyH_done (by kernel_rfl) ?_ _
            generalize (v17.setCell ⟨e0, 3, none⟩ (.slice za (n + 1) zc)) = u1 at *
            go_upto_region 5 with fail
            have AE := Lib.hid (AD.out.later (Grw.refl u1).drew.below)
            clear AD
            refine wp_region_held_drew (S := fun w' => RgB w' e0 ⟨e, r, M, za, n + 1, zc, L ++ [(⟨xw, xe, xp, xa, xn, xc, cnt, ⟨kn, kp⟩⟩ : Xg)], Y⟩) (by kernel_rfl) AE.out.b (fun hHeld => ?_)
            generalize u1.drew = u2 at *
            refine stake (i := 0) (v := encRv ⟨e, r, M, za, n + 1, zc, L ++ [(⟨xw, xe, xp, xa, xn, xc, cnt, ⟨kn, kp⟩⟩ : Xg)], Y⟩) 33 rfl (by kernel_rfl) (by kernel_rfl) (by kernel_rfl) (by kernel_rfl) (fun _ _ _ h => h) (yields_rgm (by kernel_rfl) (.tmp 2) rfl e0 (by kernel_rfl) (fun _ h => h)) hHeld ?_
            (try simp only [Act.put, List.setIfInBounds_toArray, List.set_cons_zero, List.set_cons_succ])
            refine stake (i := 1) (v := encRv ⟨e, r, M, za, n + 1, zc, L ++ [(⟨xw, xe, xp, xa, xn, xc, cnt, ⟨kn, kp⟩⟩ : Xg)], Y⟩) 34 rfl (by kernel_rfl) (by kernel_rfl) (by kernel_rfl) (by kernel_rfl) (fun _ _ _ h => h) (yields_rgm (by kernel_rfl) (.tmp 2) rfl e0 (by kernel_rfl) (fun _ h => h)) hHeld ?_
            (try simp only [Act.put, List.setIfInBounds_toArray, List.set_cons_zero, List.set_cons_succ])
            have PD := rtold (w := u2) (R := ⟨e, r, M, za, n + 1, zc, L ++ [(⟨xw, xe, xp, xa, xn, xc, cnt, ⟨kn, kp⟩⟩ : Xg)], Y⟩) HRX.out.m
            refine wpAnyH_ready (rs := [2]) (by kernel_rfl) (by simp) (AllReadyH.cons rfl (fun K hK => ?_) AllReadyH.nil)
            clear hHeld
            rw [if_pos (by kernel_rfl)]
            go_simp
            refine PD.mono ?_
            rintro e7 u3 ⟨rfl, B7⟩
            have AF := Lib.hid (AE.out.later B7)
            clear PD B7 AE
            refine hK.out _ _ AF.out.b (fun hHeld => ?_)
            clear hK K
            (try simp only [Act.put, List.setIfInBounds_toArray, List.set_cons_zero, List.set_cons_succ])
            refine wpAnyH_ready (rs := [3]) (by kernel_rfl) (by simp) (AllReadyH.cons rfl (fun K hK => ?_) AllReadyH.nil)
            clear hHeld
            rw [if_pos (by kernel_rfl)]
            refine wp_store_row 33 (.tmp 4) (.tmp 33) rfl (e0 + 2) (encRG ⟨e, r, M, za, n + 1, zc, L ++ [(⟨xw, xe, xp, xa, xn, xc, cnt, ⟨kn, kp⟩⟩ : Xg)], Y⟩).toArray rfl rfl 33 _ AF.out.z rg_size rfl (rg_one1 _) ?_
            have AG := Lib.hid (AF.out.store ⟨e, r, M, za, n + 1, zc, L ++ [(⟨xw, xe, xp, xa, xn, xc, cnt, ⟨kn, kp⟩⟩ : Xg)], Y⟩)
            refine hK.out _ _ AG.out.b (fun hHeld => ?_)
            clear hK K AF
            generalize (u3.setRow (e0 + 2) (encRG ⟨e, r, M, za, n + 1, zc, L ++ [(⟨xw, xe, xp, xa, xn, xc, cnt, ⟨kn, kp⟩⟩ : Xg)], Y⟩).toArray) = u4 at *
            (try simp only [Act.put, List.setIfInBounds_toArray, List.set_cons_zero, List.set_cons_succ])
            refine wpAnyH_ready (rs := [4]) (by kernel_rfl) (by simp) (AllReadyH.cons rfl (fun K hK => ?_) AllReadyH.nil)
            clear hHeld
            rw [if_pos (by kernel_rfl)]
            go_simp
            refine hK.out _ _ AG.out.b (fun hHeld => ?_)
            clear hK K hHeld
            (try simp only [Act.put, List.setIfInBounds_toArray, List.set_cons_zero, List.set_cons_succ])
            refine wpAnyH_done (by kernel_rfl) ?_ _
            go_wp2_with fail
            (try simp only [Exit.inBlock, Exit.then])
            exact bodyPost_ret (results_rgp rfl _ _ (e0 + 2) rfl AG.out.z) rfl ⟨⟨e, r, M, za, n + 1, zc, L ++ [(⟨xw, xe, xp, xa, xn, xc, cnt, ⟨kn, kp⟩⟩ : Xg)], Y⟩, by rw [HOK.out]; rfl, fun h => absurd h (by rw [HOK.out]; decide), fun _ => ⟨za, zc, rfl⟩, AG.out.r, AG.out.bel⟩
          · clear hHeld
            rw [if_pos (by kernel_rfl)]
            go_simp
            have X18 : Hid (XgB (v14.alloc (.cells #[.int .i64 xw, .int .u64 xe, .int .i64 xp, .slice xa xn xc, .int .u64 kn, .int .i64 kp] 38)) v14.heap.size ⟨xw, xe, xp, xa, xn, xc, cnt, ⟨kn, kp⟩⟩) := Lib.hid (XgB.new v14 ⟨xw, xe, xp, xa, xn, xc, cnt, ⟨kn, kp⟩⟩)
            have A18 := Lib.hid (A14.out.trans (((Grw.refl v14).alloc (.cells #[.int .i64 xw, .int .u64 xe, .int .i64 xp, .slice xa xn xc, .int .u64 kn, .int .i64 kp] 38)).below.mono A14.out.size))
            have Q18 := Q14.alloc (.cells #[.int .i64 xw, .int .u64 xe, .int .i64 xp, .slice xa xn xc, .int .u64 kn, .int .i64 kp] 38)
            have hq18 := Q14.lt
            have hz18 : nb ≤ (v14.alloc (.cells #[.int .i64 xw, .int .u64 xe, .int .i64 xp, .slice xa xn xc, .int .u64 kn, .int .i64 kp] 38)).heap.size := Nat.le_trans hz14 (by simp)
            obtain ⟨cb, hcbe⟩ : ∃ cb, cb = v14.heap.size := ⟨_, rfl⟩
            rw [← hcbe] at X18
            try rw [← hcbe]
            have hcb : cb ≠ nb := by have := (hq18 nb rfl).2; omega
            generalize (v14.alloc (.cells #[.int .i64 xw, .int .u64 xe, .int .i64 xp, .slice xa xn xc, .int .u64 kn, .int .i64 kp] 38)) = v18 at *
            clear hcbe A14 hq18 Q14
            refine hK.out _ _ (HX.out.below A18.out) (fun hHeld => ?_)
            clear hK K
            (try simp only [Act.put, List.setIfInBounds_toArray, List.set_cons_zero, List.set_cons_succ])
            refine wpAnyH_ready (rs := [3]) (by kernel_rfl) (by simp) (AllReadyH.cons rfl (fun K hK => ?_) AllReadyH.nil)
            clear hHeld
            rw [if_pos (by kernel_rfl)]
            refine wp_append_xg v18 (.tmp 25) (.tmp 27) rfl nb (.slice (some ⟨nb, 0, none⟩) 0 0) 0 [] rfl Q18 a n c L rfl HRX.out.nil ((HRX.out.later A18.out).at_) (by omega) hz18 ?_
            intro va19 v19 Q19 G19
            have A19 := Lib.hid (A18.out.grown G19 A18.out.size (fun j hj => by have := own_behind Q18 j hj; omega))
            have hz19 : nb ≤ v19.heap.size := Nat.le_trans hz18 G19.size
            have X19 := Lib.hid (X18.out.kept (G19.block cb (Own.lt X18.out) (fun e => by simp [Value.ownBlock] at e; omega)))
            clear X18
            clear A18 G19 Q18
            refine hK.out _ _ (HX.out.below A19.out) (fun hHeld => ?_)
            clear hK K
            (try simp only [Act.put, List.setIfInBounds_toArray, List.set_cons_zero, List.set_cons_succ])
            refine wpAnyH_ready (rs := [6]) (by kernel_rfl) (by simp) (AllReadyH.cons rfl (fun K hK => ?_) AllReadyH.nil)
            clear hHeld
            rw [if_pos (by kernel_rfl)]
            refine wp_append_xg v19 (.tmp 28) (.tmp 30) rfl nb va19 (0 + n) _ rfl Q19 (some ⟨cb, 0, none⟩) 1 1 [⟨xw, xe, xp, xa, xn, xc, cnt, ⟨kn, kp⟩⟩] rfl (fun e => by cases e) (lst_xg1 X19.out) (by omega) hz19 ?_
            intro vz v20 Q20 G20
            have A20 := Lib.hid (A19.out.grown G20 A19.out.size (fun j hj => by have := own_behind Q19 j hj; omega))
            obtain ⟨za, zc, rfl⟩ := own_form' (own_eq Q20 (show 0 + n + 1 = n + 1 by omega) rfl)
            have HQ := Lib.hid (own_eq (n' := n + 1) (xs' := flat encXg (L ++ [⟨xw, xe, xp, xa, xn, xc, cnt, ⟨kn, kp⟩⟩])) Q20 (by omega) (by rw [flat_append, List.nil_append]))
            clear A19 G20 Q19 Q20
            refine hK.out _ _ (HX.out.below A20.out) (fun hHeld => ?_)
            clear hK K
            (try simp only [Act.put, List.setIfInBounds_toArray, List.set_cons_zero, List.set_cons_succ])
            refine stake (i := 7) (v := (.pointer (some ⟨e0, 3, none⟩))) 32 rfl (by kernel_rfl) (by kernel_rfl) (by kernel_rfl) (by kernel_rfl) (fun _ _ _ h => h) (.inl ⟨by kernel_rfl, fun w' hS => by (go_simp)⟩) hHeld ?_
            (try simp only [Act.put, List.setIfInBounds_toArray, List.set_cons_zero, List.set_cons_succ])
            refine wpAnyH_ready (rs := [8]) (by kernel_rfl) (by simp) (AllReadyH.cons rfl (fun K hK => ?_) AllReadyH.nil)
            clear hHeld
            rw [if_pos (by kernel_rfl)]
            have f3 := (HR.out.below A20.out).own.free 3
            have c3 := (HR.out.below A20.out).c2
            go_simp
            clear f3 c3
            have AD := Lib.hid (AdSt.make HR.out HX.out HZ.out HRX.out HBL.out HE.out A20.out HQ.out hbn HLT.out HXI.out)
            refine hK.out _ _ AD.out.x (fun hHeld => ?_)
            clear hK K hHeld A20 HQ
            (try simp only [Act.put, List.setIfInBounds_toArray, List.set_cons_zero, List.set_cons_succ])
            refine wpAnyH_done (by kernel_rfl) ?_ _
            generalize (v20.setCell ⟨e0, 3, none⟩ (.slice za (n + 1) zc)) = u1 at *
            go_upto_region 5 with fail
            have AE := Lib.hid (AD.out.later (Grw.refl u1).drew.below)
            clear AD
            refine wp_region_held_drew (S := fun w' => RgB w' e0 ⟨e, r, M, za, n + 1, zc, L ++ [(⟨xw, xe, xp, xa, xn, xc, cnt, ⟨kn, kp⟩⟩ : Xg)], Y⟩) (by kernel_rfl) AE.out.b (fun hHeld => ?_)
            generalize u1.drew = u2 at *
            refine stake (i := 0) (v := encRv ⟨e, r, M, za, n + 1, zc, L ++ [(⟨xw, xe, xp, xa, xn, xc, cnt, ⟨kn, kp⟩⟩ : Xg)], Y⟩) 33 rfl (by kernel_rfl) (by kernel_rfl) (by kernel_rfl) (by kernel_rfl) (fun _ _ _ h => h) (yields_rgm (by kernel_rfl) (.tmp 2) rfl e0 (by kernel_rfl) (fun _ h => h)) hHeld ?_
            (try simp only [Act.put, List.setIfInBounds_toArray, List.set_cons_zero, List.set_cons_succ])
            refine stake (i := 1) (v := encRv ⟨e, r, M, za, n + 1, zc, L ++ [(⟨xw, xe, xp, xa, xn, xc, cnt, ⟨kn, kp⟩⟩ : Xg)], Y⟩) 34 rfl (by kernel_rfl) (by kernel_rfl) (by kernel_rfl) (by kernel_rfl) (fun _ _ _ h => h) (yields_rgm (by kernel_rfl) (.tmp 2) rfl e0 (by kernel_rfl) (fun _ h => h)) hHeld ?_
            (try simp only [Act.put, List.setIfInBounds_toArray, List.set_cons_zero, List.set_cons_succ])
            have PD := rtold (w := u2) (R := ⟨e, r, M, za, n + 1, zc, L ++ [(⟨xw, xe, xp, xa, xn, xc, cnt, ⟨kn, kp⟩⟩ : Xg)], Y⟩) HRX.out.m
            refine wpAnyH_ready (rs := [2]) (by kernel_rfl) (by simp) (AllReadyH.cons rfl (fun K hK => ?_) AllReadyH.nil)
            clear hHeld
            rw [if_pos (by kernel_rfl)]
            go_simp
            refine PD.mono ?_
            rintro e7 u3 ⟨rfl, B7⟩
            have AF := Lib.hid (AE.out.later B7)
            clear PD B7 AE
            refine hK.out _ _ AF.out.b (fun hHeld => ?_)
            clear hK K
            (try simp only [Act.put, List.setIfInBounds_toArray, List.set_cons_zero, List.set_cons_succ])
            refine wpAnyH_ready (rs := [3]) (by kernel_rfl) (by simp) (AllReadyH.cons rfl (fun K hK => ?_) AllReadyH.nil)
            clear hHeld
            rw [if_pos (by kernel_rfl)]
            refine wp_store_row 33 (.tmp 4) (.tmp 33) rfl (e0 + 2) (encRG ⟨e, r, M, za, n + 1, zc, L ++ [(⟨xw, xe, xp, xa, xn, xc, cnt, ⟨kn, kp⟩⟩ : Xg)], Y⟩).toArray rfl rfl 33 _ AF.out.z rg_size rfl (rg_one1 _) ?_
            have AG := Lib.hid (AF.out.store ⟨e, r, M, za, n + 1, zc, L ++ [(⟨xw, xe, xp, xa, xn, xc, cnt, ⟨kn, kp⟩⟩ : Xg)], Y⟩)
            refine hK.out _ _ AG.out.b (fun hHeld => ?_)
            clear hK K AF
            generalize (u3.setRow (e0 + 2) (encRG ⟨e, r, M, za, n + 1, zc, L ++ [(⟨xw, xe, xp, xa, xn, xc, cnt, ⟨kn, kp⟩⟩ : Xg)], Y⟩).toArray) = u4 at *
            (try simp only [Act.put, List.setIfInBounds_toArray, List.set_cons_zero, List.set_cons_succ])
            refine wpAnyH_ready (rs := [4]) (by kernel_rfl) (by simp) (AllReadyH.cons rfl (fun K hK => ?_) AllReadyH.nil)
            clear hHeld
            rw [if_pos (by kernel_rfl)]
            go_simp
            refine hK.out _ _ AG.out.b (fun hHeld => ?_)
            clear hK K hHeld
            (try simp only [Act.put, List.setIfInBounds_toArray, List.set_cons_zero, List.set_cons_succ])
            refine wpAnyH_done (by kernel_rfl) ?_ _
            go_wp2_with fail
            (try simp only [Exit.inBlock, Exit.then])
            exact bodyPost_ret (results_rgp rfl _ _ (e0 + 2) rfl AG.out.z) rfl ⟨⟨e, r, M, za, n + 1, zc, L ++ [(⟨xw, xe, xp, xa, xn, xc, cnt, ⟨kn, kp⟩⟩ : Xg)], Y⟩, by rw [HOK.out]; rfl, fun h => absurd h (by rw [HOK.out]; decide), fun _ => ⟨za, zc, rfl⟩, AG.out.r, AG.out.bel⟩
        · clear hHeld
          rw [if_pos (by kernel_rfl)]
          go_simp
          have X21 : Hid (XgB (v0.alloc (.cells #[.int .i64 xw, .int .u64 xe, .int .i64 xp, .slice xa xn xc, .int .u64 kn, .int .i64 kp] 38)) v0.heap.size ⟨xw, xe, xp, xa, xn, xc, cnt, ⟨kn, kp⟩⟩) := Lib.hid (XgB.new v0 ⟨xw, xe, xp, xa, xn, xc, cnt, ⟨kn, kp⟩⟩)
          have A21 := Lib.hid (A0.out.trans (((Grw.refl v0).alloc (.cells #[.int .i64 xw, .int .u64 xe, .int .i64 xp, .slice xa xn xc, .int .u64 kn, .int .i64 kp] 38)).below.mono A0.out.size))
          obtain ⟨cb, hcbe⟩ : ∃ cb, cb = v0.heap.size := ⟨_, rfl⟩
          rw [← hcbe] at X21
          try rw [← hcbe]
          generalize (v0.alloc (.cells #[.int .i64 xw, .int .u64 xe, .int .i64 xp, .slice xa xn xc, .int .u64 kn, .int .i64 kp] 38)) = v21 at *
          clear hcbe  
          refine hK.out _ _ (HX.out.below A21.out) (fun hHeld => ?_)
          clear hK K
          (try simp only [Act.put, List.setIfInBounds_toArray, List.set_cons_zero, List.set_cons_succ])
          refine wpAnyH_ready (rs := [0]) (by kernel_rfl) (by simp) (AllReadyH.cons rfl (fun K hK => ?_) AllReadyH.nil)
          clear hHeld
          rw [if_pos (by kernel_rfl)]
          go_simp
          have Q22 := World.ownsRow_made (e := 38) (size := 6) v21 #[] 0 (Nat.le_refl _) (Nat.zero_le _) (by simp)
          have A22 := Lib.hid (A21.out.trans (((Grw.refl v21).alloc (.cells #[] 38)).below.mono A21.out.size))
          obtain ⟨nb, hnb⟩ : ∃ nb, nb = v21.heap.size := ⟨_, rfl⟩
          rw [← hnb] at Q22
          try rw [← hnb]
          have hbn : v0.heap.size ≤ nb := by rw [hnb]; exact A21.out.size
          have hz22 : nb ≤ (v21.alloc (.cells #[] 38)).heap.size := by rw [hnb]; simp
          have X22 := Lib.hid (X21.out.below ((Grw.refl v21).alloc (.cells #[] 38)).below)
          have hcb : cb ≠ nb := by have := Own.lt X21.out; omega
          generalize (v21.alloc (.cells #[] 38)) = v22 at *
          clear hnb A21 X21
          refine hK.out _ _ (HX.out.below A22.out) (fun hHeld => ?_)
          clear hK K
          (try simp only [Act.put, List.setIfInBounds_toArray, List.set_cons_zero, List.set_cons_succ])
          refine wpAnyH_ready (rs := [3]) (by kernel_rfl) (by simp) (AllReadyH.cons rfl (fun K hK => ?_) AllReadyH.nil)
          clear hHeld
          rw [if_pos (by kernel_rfl)]
          refine wp_append_xg v22 (.tmp 25) (.tmp 27) rfl nb (.slice (some ⟨nb, 0, none⟩) 0 0) 0 [] rfl Q22 a n c L rfl HRX.out.nil ((HRX.out.later A22.out).at_) (by omega) hz22 ?_
          intro va23 v23 Q23 G23
          have A23 := Lib.hid (A22.out.grown G23 A22.out.size (fun j hj => by have := own_behind Q22 j hj; omega))
          have hz23 : nb ≤ v23.heap.size := Nat.le_trans hz22 G23.size
          have X23 := Lib.hid (X22.out.kept (G23.block cb (Own.lt X22.out) (fun e => by simp [Value.ownBlock] at e; omega)))
          clear X22
          clear A22 G23 Q22
          refine hK.out _ _ (HX.out.below A23.out) (fun hHeld => ?_)
          clear hK K
          (try simp only [Act.put, List.setIfInBounds_toArray, List.set_cons_zero, List.set_cons_succ])
          refine wpAnyH_ready (rs := [6]) (by kernel_rfl) (by simp) (AllReadyH.cons rfl (fun K hK => ?_) AllReadyH.nil)
          clear hHeld
          rw [if_pos (by kernel_rfl)]
          refine wp_append_xg v23 (.tmp 28) (.tmp 30) rfl nb va23 (0 + n) _ rfl Q23 (some ⟨cb, 0, none⟩) 1 1 [⟨xw, xe, xp, xa, xn, xc, cnt, ⟨kn, kp⟩⟩] rfl (fun e => by cases e) (lst_xg1 X23.out) (by omega) hz23 ?_
          intro vz v24 Q24 G24
          have A24 := Lib.hid (A23.out.grown G24 A23.out.size (fun j hj => by have := own_behind Q23 j hj; omega))
          obtain ⟨za, zc, rfl⟩ := own_form' (own_eq Q24 (show 0 + n + 1 = n + 1 by omega) rfl)
          have HQ := Lib.hid (own_eq (n' := n + 1) (xs' := flat encXg (L ++ [⟨xw, xe, xp, xa, xn, xc, cnt, ⟨kn, kp⟩⟩])) Q24 (by omega) (by rw [flat_append, List.nil_append]))
          clear A23 G24 Q23 Q24
          refine hK.out _ _ (HX.out.below A24.out) (fun hHeld => ?_)
          clear hK K
          (try simp only [Act.put, List.setIfInBounds_toArray, List.set_cons_zero, List.set_cons_succ])
          refine stake (i := 7) (v := (.pointer (some ⟨e0, 3, none⟩))) 32 rfl (by kernel_rfl) (by kernel_rfl) (by kernel_rfl) (by kernel_rfl) (fun _ _ _ h => h) (.inl ⟨by kernel_rfl, fun w' hS => by (go_simp)⟩) hHeld ?_
          (try simp only [Act.put, List.setIfInBounds_toArray, List.set_cons_zero, List.set_cons_succ])
          refine wpAnyH_ready (rs := [8]) (by kernel_rfl) (by simp) (AllReadyH.cons rfl (fun K hK => ?_) AllReadyH.nil)
          clear hHeld
          rw [if_pos (by kernel_rfl)]
          have f3 := (HR.out.below A24.out).own.free 3
          have c3 := (HR.out.below A24.out).c2
          go_simp
          clear f3 c3
          have AD := Lib.hid (AdSt.make HR.out HX.out HZ.out HRX.out HBL.out HE.out A24.out HQ.out hbn HLT.out HXI.out)
          refine hK.out _ _ AD.out.x (fun hHeld => ?_)
          clear hK K hHeld A24 HQ
          (try simp only [Act.put, List.setIfInBounds_toArray, List.set_cons_zero, List.set_cons_succ])
          refine wpAnyH_done (by kernel_rfl) ?_ _
          generalize (v24.setCell ⟨e0, 3, none⟩ (.slice za (n + 1) zc)) = u1 at *
          go_upto_region 5 with fail
          have AE := Lib.hid (AD.out.later (Grw.refl u1).drew.below)
          clear AD
          refine wp_region_held_drew (S := fun w' => RgB w' e0 ⟨e, r, M, za, n + 1, zc, L ++ [(⟨xw, xe, xp, xa, xn, xc, cnt, ⟨kn, kp⟩⟩ : Xg)], Y⟩) (by kernel_rfl) AE.out.b (fun hHeld => ?_)
          generalize u1.drew = u2 at *
          refine stake (i := 0) (v := encRv ⟨e, r, M, za, n + 1, zc, L ++ [(⟨xw, xe, xp, xa, xn, xc, cnt, ⟨kn, kp⟩⟩ : Xg)], Y⟩) 33 rfl (by kernel_rfl) (by kernel_rfl) (by kernel_rfl) (by kernel_rfl) (fun _ _ _ h => h) (yields_rgm (by kernel_rfl) (.tmp 2) rfl e0 (by kernel_rfl) (fun _ h => h)) hHeld ?_
          (try simp only [Act.put, List.setIfInBounds_toArray, List.set_cons_zero, List.set_cons_succ])
          refine stake (i := 1) (v := encRv ⟨e, r, M, za, n + 1, zc, L ++ [(⟨xw, xe, xp, xa, xn, xc, cnt, ⟨kn, kp⟩⟩ : Xg)], Y⟩) 34 rfl (by kernel_rfl) (by kernel_rfl) (by kernel_rfl) (by kernel_rfl) (fun _ _ _ h => h) (yields_rgm (by kernel_rfl) (.tmp 2) rfl e0 (by kernel_rfl) (fun _ h => h)) hHeld ?_
          (try simp only [Act.put, List.setIfInBounds_toArray, List.set_cons_zero, List.set_cons_succ])
          have PD := rtold (w := u2) (R := ⟨e, r, M, za, n + 1, zc, L ++ [(⟨xw, xe, xp, xa, xn, xc, cnt, ⟨kn, kp⟩⟩ : Xg)], Y⟩) HRX.out.m
          refine wpAnyH_ready (rs := [2]) (by kernel_rfl) (by simp) (AllReadyH.cons rfl (fun K hK => ?_) AllReadyH.nil)
          clear hHeld
          rw [if_pos (by kernel_rfl)]
          go_simp
          refine PD.mono ?_
          rintro e7 u3 ⟨rfl, B7⟩
          have AF := Lib.hid (AE.out.later B7)
          clear PD B7 AE
          refine hK.out _ _ AF.out.b (fun hHeld => ?_)
          clear hK K
          (try simp only [Act.put, List.setIfInBounds_toArray, List.set_cons_zero, List.set_cons_succ])
          refine wpAnyH_ready (rs := [3]) (by kernel_rfl) (by simp) (AllReadyH.cons rfl (fun K hK => ?_) AllReadyH.nil)
          clear hHeld
          rw [if_pos (by kernel_rfl)]
          refine wp_store_row 33 (.tmp 4) (.tmp 33) rfl (e0 + 2) (encRG ⟨e, r, M, za, n + 1, zc, L ++ [(⟨xw, xe, xp, xa, xn, xc, cnt, ⟨kn, kp⟩⟩ : Xg)], Y⟩).toArray rfl rfl 33 _ AF.out.z rg_size rfl (rg_one1 _) ?_
          have AG := Lib.hid (AF.out.store ⟨e, r, M, za, n + 1, zc, L ++ [(⟨xw, xe, xp, xa, xn, xc, cnt, ⟨kn, kp⟩⟩ : Xg)], Y⟩)
          refine hK.out _ _ AG.out.b (fun hHeld => ?_)
          clear hK K AF
          generalize (u3.setRow (e0 + 2) (encRG ⟨e, r, M, za, n + 1, zc, L ++ [(⟨xw, xe, xp, xa, xn, xc, cnt, ⟨kn, kp⟩⟩ : Xg)], Y⟩).toArray) = u4 at *
          (try simp only [Act.put, List.setIfInBounds_toArray, List.set_cons_zero, List.set_cons_succ])
          refine wpAnyH_ready (rs := [4]) (by kernel_rfl) (by simp) (AllReadyH.cons rfl (fun K hK => ?_) AllReadyH.nil)
          clear hHeld
          rw [if_pos (by kernel_rfl)]
          go_simp
          refine hK.out _ _ AG.out.b (fun hHeld => ?_)
          clear hK K hHeld
          (try simp only [Act.put, List.setIfInBounds_toArray, List.set_cons_zero, List.set_cons_succ])
          refine wpAnyH_done (by kernel_rfl) ?_ _
          go_wp2_with fail
          (try simp only [Exit.inBlock, Exit.then])
          exact bodyPost_ret (results_rgp rfl _ _ (e0 + 2) rfl AG.out.z) rfl ⟨⟨e, r, M, za, n + 1, zc, L ++ [(⟨xw, xe, xp, xa, xn, xc, cnt, ⟨kn, kp⟩⟩ : Xg)], Y⟩, by rw [HOK.out]; rfl, fun h => absurd h (by rw [HOK.out]; decide), fun _ => ⟨za, zc, rfl⟩, AG.out.r, AG.out.bel⟩
      · clear hHeld
        rw [if_pos (by kernel_rfl)]
        go_simp
        have X25 : Hid (XgB (v0.alloc (.cells #[.int .i64 xw, .int .u64 xe, .int .i64 xp, .slice xa xn xc, .int .u64 kn, .int .i64 kp] 38)) v0.heap.size ⟨xw, xe, xp, xa, xn, xc, cnt, ⟨kn, kp⟩⟩) := Lib.hid (XgB.new v0 ⟨xw, xe, xp, xa, xn, xc, cnt, ⟨kn, kp⟩⟩)
        have A25 := Lib.hid (A0.out.trans (((Grw.refl v0).alloc (.cells #[.int .i64 xw, .int .u64 xe, .int .i64 xp, .slice xa xn xc, .int .u64 kn, .int .i64 kp] 38)).below.mono A0.out.size))
        obtain ⟨cb, hcbe⟩ : ∃ cb, cb = v0.heap.size := ⟨_, rfl⟩
        rw [← hcbe] at X25
        try rw [← hcbe]
        generalize (v0.alloc (.cells #[.int .i64 xw, .int .u64 xe, .int .i64 xp, .slice xa xn xc, .int .u64 kn, .int .i64 kp] 38)) = v25 at *
        clear hcbe  
        refine hK.out _ _ (HX.out.below A25.out) (fun hHeld => ?_)
        clear hK K
        (try simp only [Act.put, List.setIfInBounds_toArray, List.set_cons_zero, List.set_cons_succ])
        refine wpAnyH_ready (rs := [0, 2]) (by kernel_rfl) (by simp) (AllReadyH.cons rfl (fun K hK => ?_) (AllReadyH.cons rfl (fun K hK => ?_) AllReadyH.nil))
        · clear hHeld
          rw [if_pos (by kernel_rfl)]
          go_simp
          have Q26 := World.ownsRow_made (e := 38) (size := 6) v25 #[] 0 (Nat.le_refl _) (Nat.zero_le _) (by simp)
          have A26 := Lib.hid (A25.out.trans (((Grw.refl v25).alloc (.cells #[] 38)).below.mono A25.out.size))
          obtain ⟨nb, hnb⟩ : ∃ nb, nb = v25.heap.size := ⟨_, rfl⟩
          rw [← hnb] at Q26
          try rw [← hnb]
          have hbn : v0.heap.size ≤ nb := by rw [hnb]; exact A25.out.size
          have hz26 : nb ≤ (v25.alloc (.cells #[] 38)).heap.size := by rw [hnb]; simp
          have X26 := Lib.hid (X25.out.below ((Grw.refl v25).alloc (.cells #[] 38)).below)
          have hcb : cb ≠ nb := by have := Own.lt X25.out; omega
          generalize (v25.alloc (.cells #[] 38)) = v26 at *
          clear hnb A25 X25
          refine hK.out _ _ (HX.out.below A26.out) (fun hHeld => ?_)
          clear hK K
          (try simp only [Act.put, List.setIfInBounds_toArray, List.set_cons_zero, List.set_cons_succ])
          refine wpAnyH_ready (rs := [2]) (by kernel_rfl) (by simp) (AllReadyH.cons rfl (fun K hK => ?_) AllReadyH.nil)
          clear hHeld
          rw [if_pos (by kernel_rfl)]
          have c3 := (HR.out.below A26.out).c2
          go_simp
          clear c3
          refine hK.out _ _ (HX.out.below A26.out) (fun hHeld => ?_)
          clear hK K
          (try simp only [Act.put, List.setIfInBounds_toArray, List.set_cons_zero, List.set_cons_succ])
          refine wpAnyH_ready (rs := [3]) (by kernel_rfl) (by simp) (AllReadyH.cons rfl (fun K hK => ?_) AllReadyH.nil)
          clear hHeld
          rw [if_pos (by kernel_rfl)]
          refine wp_append_xg v26 (.tmp 25) (.tmp 27) rfl nb (.slice (some ⟨nb, 0, none⟩) 0 0) 0 [] rfl Q26 a n c L rfl HRX.out.nil ((HRX.out.later A26.out).at_) (by omega) hz26 ?_
          intro va28 v28 Q28 G28
          have A28 := Lib.hid (A26.out.grown G28 A26.out.size (fun j hj => by have := own_behind Q26 j hj; omega))
          have hz28 : nb ≤ v28.heap.size := Nat.le_trans hz26 G28.size
          have X28 := Lib.hid (X26.out.kept (G28.block cb (Own.lt X26.out) (fun e => by simp [Value.ownBlock] at e; omega)))
          clear X26
          clear A26 G28 Q26
          refine hK.out _ _ (HX.out.below A28.out) (fun hHeld => ?_)
          clear hK K
          (try simp only [Act.put, List.setIfInBounds_toArray, List.set_cons_zero, List.set_cons_succ])
          refine wpAnyH_ready (rs := [6]) (by kernel_rfl) (by simp) (AllReadyH.cons rfl (fun K hK => ?_) AllReadyH.nil)
          clear hHeld
          rw [if_pos (by kernel_rfl)]
          refine wp_append_xg v28 (.tmp 28) (.tmp 30) rfl nb va28 (0 + n) _ rfl Q28 (some ⟨cb, 0, none⟩) 1 1 [⟨xw, xe, xp, xa, xn, xc, cnt, ⟨kn, kp⟩⟩] rfl (fun e => by cases e) (lst_xg1 X28.out) (by omega) hz28 ?_
          intro vz v29 Q29 G29
          have A29 := Lib.hid (A28.out.grown G29 A28.out.size (fun j hj => by have := own_behind Q28 j hj; omega))
          obtain ⟨za, zc, rfl⟩ := own_form' (own_eq Q29 (show 0 + n + 1 = n + 1 by omega) rfl)
          have HQ := Lib.hid (own_eq (n' := n + 1) (xs' := flat encXg (L ++ [⟨xw, xe, xp, xa, xn, xc, cnt, ⟨kn, kp⟩⟩])) Q29 (by omega) (by rw [flat_append, List.nil_append]))
          clear A28 G29 Q28 Q29
          refine hK.out _ _ (HX.out.below A29.out) (fun hHeld => ?_)
          clear hK K
          (try simp only [Act.put, List.setIfInBounds_toArray, List.set_cons_zero, List.set_cons_succ])
          refine stake (i := 7) (v := (.pointer (some ⟨e0, 3, none⟩))) 32 rfl (by kernel_rfl) (by kernel_rfl) (by kernel_rfl) (by kernel_rfl) (fun _ _ _ h => h) (.inl ⟨by kernel_rfl, fun w' hS => by (go_simp)⟩) hHeld ?_
          (try simp only [Act.put, List.setIfInBounds_toArray, List.set_cons_zero, List.set_cons_succ])
          refine wpAnyH_ready (rs := [8]) (by kernel_rfl) (by simp) (AllReadyH.cons rfl (fun K hK => ?_) AllReadyH.nil)
          clear hHeld
          rw [if_pos (by kernel_rfl)]
          have f3 := (HR.out.below A29.out).own.free 3
          have c3 := (HR.out.below A29.out).c2
          go_simp
          clear f3 c3
          have AD := Lib.hid (AdSt.make HR.out HX.out HZ.out HRX.out HBL.out HE.out A29.out HQ.out hbn HLT.out HXI.out)
          refine hK.out _ _ AD.out.x (fun hHeld => ?_)
          clear hK K hHeld A29 HQ
          (try simp only [Act.put, List.setIfInBounds_toArray, List.set_cons_zero, List.set_cons_succ])
          refine wpAnyH_done (by kernel_rfl) ?_ _
          generalize (v29.setCell ⟨e0, 3, none⟩ (.slice za (n + 1) zc)) = u1 at *
          go_upto_region 5 with fail
          have AE := Lib.hid (AD.out.later (Grw.refl u1).drew.below)
          clear AD
          refine wp_region_held_drew (S := fun w' => RgB w' e0 ⟨e, r, M, za, n + 1, zc, L ++ [(⟨xw, xe, xp, xa, xn, xc, cnt, ⟨kn, kp⟩⟩ : Xg)], Y⟩) (by kernel_rfl) AE.out.b (fun hHeld => ?_)
          generalize u1.drew = u2 at *
          refine stake (i := 0) (v := encRv ⟨e, r, M, za, n + 1, zc, L ++ [(⟨xw, xe, xp, xa, xn, xc, cnt, ⟨kn, kp⟩⟩ : Xg)], Y⟩) 33 rfl (by kernel_rfl) (by kernel_rfl) (by kernel_rfl) (by kernel_rfl) (fun _ _ _ h => h) (yields_rgm (by kernel_rfl) (.tmp 2) rfl e0 (by kernel_rfl) (fun _ h => h)) hHeld ?_
          (try simp only [Act.put, List.setIfInBounds_toArray, List.set_cons_zero, List.set_cons_succ])
          refine stake (i := 1) (v := encRv ⟨e, r, M, za, n + 1, zc, L ++ [(⟨xw, xe, xp, xa, xn, xc, cnt, ⟨kn, kp⟩⟩ : Xg)], Y⟩) 34 rfl (by kernel_rfl) (by kernel_rfl) (by kernel_rfl) (by kernel_rfl) (fun _ _ _ h => h) (yields_rgm (by kernel_rfl) (.tmp 2) rfl e0 (by kernel_rfl) (fun _ h => h)) hHeld ?_
          (try simp only [Act.put, List.setIfInBounds_toArray, List.set_cons_zero, List.set_cons_succ])
          have PD := rtold (w := u2) (R := ⟨e, r, M, za, n + 1, zc, L ++ [(⟨xw, xe, xp, xa, xn, xc, cnt, ⟨kn, kp⟩⟩ : Xg)], Y⟩) HRX.out.m
          refine wpAnyH_ready (rs := [2]) (by kernel_rfl) (by simp) (AllReadyH.cons rfl (fun K hK => ?_) AllReadyH.nil)
          clear hHeld
          rw [if_pos (by kernel_rfl)]
          go_simp
          refine PD.mono ?_
          rintro e7 u3 ⟨rfl, B7⟩
          have AF := Lib.hid (AE.out.later B7)
          clear PD B7 AE
          refine hK.out _ _ AF.out.b (fun hHeld => ?_)
          clear hK K
          (try simp only [Act.put, List.setIfInBounds_toArray, List.set_cons_zero, List.set_cons_succ])
          refine wpAnyH_ready (rs := [3]) (by kernel_rfl) (by simp) (AllReadyH.cons rfl (fun K hK => ?_) AllReadyH.nil)
          clear hHeld
          rw [if_pos (by kernel_rfl)]
          refine wp_store_row 33 (.tmp 4) (.tmp 33) rfl (e0 + 2) (encRG ⟨e, r, M, za, n + 1, zc, L ++ [(⟨xw, xe, xp, xa, xn, xc, cnt, ⟨kn, kp⟩⟩ : Xg)], Y⟩).toArray rfl rfl 33 _ AF.out.z rg_size rfl (rg_one1 _) ?_
          have AG := Lib.hid (AF.out.store ⟨e, r, M, za, n + 1, zc, L ++ [(⟨xw, xe, xp, xa, xn, xc, cnt, ⟨kn, kp⟩⟩ : Xg)], Y⟩)
          refine hK.out _ _ AG.out.b (fun hHeld => ?_)
          clear hK K AF
          generalize (u3.setRow (e0 + 2) (encRG ⟨e, r, M, za, n + 1, zc, L ++ [(⟨xw, xe, xp, xa, xn, xc, cnt, ⟨kn, kp⟩⟩ : Xg)], Y⟩).toArray) = u4 at *
          (try simp only [Act.put, List.setIfInBounds_toArray, List.set_cons_zero, List.set_cons_succ])
          refine wpAnyH_ready (rs := [4]) (by kernel_rfl) (by simp) (AllReadyH.cons rfl (fun K hK => ?_) AllReadyH.nil)
          clear hHeld
          rw [if_pos (by kernel_rfl)]
          go_simp
          refine hK.out _ _ AG.out.b (fun hHeld => ?_)
          clear hK K hHeld
          (try simp only [Act.put, List.setIfInBounds_toArray, List.set_cons_zero, List.set_cons_succ])
          refine wpAnyH_done (by kernel_rfl) ?_ _
          go_wp2_with fail
          (try simp only [Exit.inBlock, Exit.then])
          exact bodyPost_ret (results_rgp rfl _ _ (e0 + 2) rfl AG.out.z) rfl ⟨⟨e, r, M, za, n + 1, zc, L ++ [(⟨xw, xe, xp, xa, xn, xc, cnt, ⟨kn, kp⟩⟩ : Xg)], Y⟩, by rw [HOK.out]; rfl, fun h => absurd h (by rw [HOK.out]; decide), fun _ => ⟨za, zc, rfl⟩, AG.out.r, AG.out.bel⟩
        · clear hHeld
          rw [if_pos (by kernel_rfl)]
          have c3 := (HR.out.below A25.out).c2
          go_simp
          clear c3
          refine hK.out _ _ (HX.out.below A25.out) (fun hHeld => ?_)
          clear hK K
          (try simp only [Act.put, List.setIfInBounds_toArray, List.set_cons_zero, List.set_cons_succ])
          refine wpAnyH_ready (rs := [0]) (by kernel_rfl) (by simp) (AllReadyH.cons rfl (fun K hK => ?_) AllReadyH.nil)
          clear hHeld
          rw [if_pos (by kernel_rfl)]
          go_simp
          have Q31 := World.ownsRow_made (e := 38) (size := 6) v25 #[] 0 (Nat.le_refl _) (Nat.zero_le _) (by simp)
          have A31 := Lib.hid (A25.out.trans (((Grw.refl v25).alloc (.cells #[] 38)).below.mono A25.out.size))
          obtain ⟨nb, hnb⟩ : ∃ nb, nb = v25.heap.size := ⟨_, rfl⟩
          rw [← hnb] at Q31
          try rw [← hnb]
          have hbn : v0.heap.size ≤ nb := by rw [hnb]; exact A25.out.size
          have hz31 : nb ≤ (v25.alloc (.cells #[] 38)).heap.size := by rw [hnb]; simp
          have X31 := Lib.hid (X25.out.below ((Grw.refl v25).alloc (.cells #[] 38)).below)
          have hcb : cb ≠ nb := by have := Own.lt X25.out; omega
          generalize (v25.alloc (.cells #[] 38)) = v31 at *
          clear hnb A25 X25
          refine hK.out _ _ (HX.out.below A31.out) (fun hHeld => ?_)
          clear hK K
          (try simp only [Act.put, List.setIfInBounds_toArray, List.set_cons_zero, List.set_cons_succ])
          refine wpAnyH_ready (rs := [3]) (by kernel_rfl) (by simp) (AllReadyH.cons rfl (fun K hK => ?_) AllReadyH.nil)
          clear hHeld
          rw [if_pos (by kernel_rfl)]
          refine wp_append_xg v31 (.tmp 25) (.tmp 27) rfl nb (.slice (some ⟨nb, 0, none⟩) 0 0) 0 [] rfl Q31 a n c L rfl HRX.out.nil ((HRX.out.later A31.out).at_) (by omega) hz31 ?_
          intro va32 v32 Q32 G32
          have A32 := Lib.hid (A31.out.grown G32 A31.out.size (fun j hj => by have := own_behind Q31 j hj; omega))
          have hz32 : nb ≤ v32.heap.size := Nat.le_trans hz31 G32.size
          have X32 := Lib.hid (X31.out.kept (G32.block cb (Own.lt X31.out) (fun e => by simp [Value.ownBlock] at e; omega)))
          clear X31
          clear A31 G32 Q31
          refine hK.out _ _ (HX.out.below A32.out) (fun hHeld => ?_)
          clear hK K
          (try simp only [Act.put, List.setIfInBounds_toArray, List.set_cons_zero, List.set_cons_succ])
          refine wpAnyH_ready (rs := [6]) (by kernel_rfl) (by simp) (AllReadyH.cons rfl (fun K hK => ?_) AllReadyH.nil)
          clear hHeld
          rw [if_pos (by kernel_rfl)]
          refine wp_append_xg v32 (.tmp 28) (.tmp 30) rfl nb va32 (0 + n) _ rfl Q32 (some ⟨cb, 0, none⟩) 1 1 [⟨xw, xe, xp, xa, xn, xc, cnt, ⟨kn, kp⟩⟩] rfl (fun e => by cases e) (lst_xg1 X32.out) (by omega) hz32 ?_
          intro vz v33 Q33 G33
          have A33 := Lib.hid (A32.out.grown G33 A32.out.size (fun j hj => by have := own_behind Q32 j hj; omega))
          obtain ⟨za, zc, rfl⟩ := own_form' (own_eq Q33 (show 0 + n + 1 = n + 1 by omega) rfl)
          have HQ := Lib.hid (own_eq (n' := n + 1) (xs' := flat encXg (L ++ [⟨xw, xe, xp, xa, xn, xc, cnt, ⟨kn, kp⟩⟩])) Q33 (by omega) (by rw [flat_append, List.nil_append]))
          clear A32 G33 Q32 Q33
          refine hK.out _ _ (HX.out.below A33.out) (fun hHeld => ?_)
          clear hK K
          (try simp only [Act.put, List.setIfInBounds_toArray, List.set_cons_zero, List.set_cons_succ])
          refine stake (i := 7) (v := (.pointer (some ⟨e0, 3, none⟩))) 32 rfl (by kernel_rfl) (by kernel_rfl) (by kernel_rfl) (by kernel_rfl) (fun _ _ _ h => h) (.inl ⟨by kernel_rfl, fun w' hS => by (go_simp)⟩) hHeld ?_
          (try simp only [Act.put, List.setIfInBounds_toArray, List.set_cons_zero, List.set_cons_succ])
          refine wpAnyH_ready (rs := [8]) (by kernel_rfl) (by simp) (AllReadyH.cons rfl (fun K hK => ?_) AllReadyH.nil)
          clear hHeld
          rw [if_pos (by kernel_rfl)]
          have f3 := (HR.out.below A33.out).own.free 3
          have c3 := (HR.out.below A33.out).c2
          go_simp
          clear f3 c3
          have AD := Lib.hid (AdSt.make HR.out HX.out HZ.out HRX.out HBL.out HE.out A33.out HQ.out hbn HLT.out HXI.out)
          refine hK.out _ _ AD.out.x (fun hHeld => ?_)
          clear hK K hHeld A33 HQ
          (try simp only [Act.put, List.setIfInBounds_toArray, List.set_cons_zero, List.set_cons_succ])
          refine wpAnyH_done (by kernel_rfl) ?_ _
          generalize (v33.setCell ⟨e0, 3, none⟩ (.slice za (n + 1) zc)) = u1 at *
          go_upto_region 5 with fail
          have AE := Lib.hid (AD.out.later (Grw.refl u1).drew.below)
          clear AD
          refine wp_region_held_drew (S := fun w' => RgB w' e0 ⟨e, r, M, za, n + 1, zc, L ++ [(⟨xw, xe, xp, xa, xn, xc, cnt, ⟨kn, kp⟩⟩ : Xg)], Y⟩) (by kernel_rfl) AE.out.b (fun hHeld => ?_)
          generalize u1.drew = u2 at *
          refine stake (i := 0) (v := encRv ⟨e, r, M, za, n + 1, zc, L ++ [(⟨xw, xe, xp, xa, xn, xc, cnt, ⟨kn, kp⟩⟩ : Xg)], Y⟩) 33 rfl (by kernel_rfl) (by kernel_rfl) (by kernel_rfl) (by kernel_rfl) (fun _ _ _ h => h) (yields_rgm (by kernel_rfl) (.tmp 2) rfl e0 (by kernel_rfl) (fun _ h => h)) hHeld ?_
          (try simp only [Act.put, List.setIfInBounds_toArray, List.set_cons_zero, List.set_cons_succ])
          refine stake (i := 1) (v := encRv ⟨e, r, M, za, n + 1, zc, L ++ [(⟨xw, xe, xp, xa, xn, xc, cnt, ⟨kn, kp⟩⟩ : Xg)], Y⟩) 34 rfl (by kernel_rfl) (by kernel_rfl) (by kernel_rfl) (by kernel_rfl) (fun _ _ _ h => h) (yields_rgm (by kernel_rfl) (.tmp 2) rfl e0 (by kernel_rfl) (fun _ h => h)) hHeld ?_
          (try simp only [Act.put, List.setIfInBounds_toArray, List.set_cons_zero, List.set_cons_succ])
          have PD := rtold (w := u2) (R := ⟨e, r, M, za, n + 1, zc, L ++ [(⟨xw, xe, xp, xa, xn, xc, cnt, ⟨kn, kp⟩⟩ : Xg)], Y⟩) HRX.out.m
          refine wpAnyH_ready (rs := [2]) (by kernel_rfl) (by simp) (AllReadyH.cons rfl (fun K hK => ?_) AllReadyH.nil)
          clear hHeld
          rw [if_pos (by kernel_rfl)]
          go_simp
          refine PD.mono ?_
          rintro e7 u3 ⟨rfl, B7⟩
          have AF := Lib.hid (AE.out.later B7)
          clear PD B7 AE
          refine hK.out _ _ AF.out.b (fun hHeld => ?_)
          clear hK K
          (try simp only [Act.put, List.setIfInBounds_toArray, List.set_cons_zero, List.set_cons_succ])
          refine wpAnyH_ready (rs := [3]) (by kernel_rfl) (by simp) (AllReadyH.cons rfl (fun K hK => ?_) AllReadyH.nil)
          clear hHeld
          rw [if_pos (by kernel_rfl)]
          refine wp_store_row 33 (.tmp 4) (.tmp 33) rfl (e0 + 2) (encRG ⟨e, r, M, za, n + 1, zc, L ++ [(⟨xw, xe, xp, xa, xn, xc, cnt, ⟨kn, kp⟩⟩ : Xg)], Y⟩).toArray rfl rfl 33 _ AF.out.z rg_size rfl (rg_one1 _) ?_
          have AG := Lib.hid (AF.out.store ⟨e, r, M, za, n + 1, zc, L ++ [(⟨xw, xe, xp, xa, xn, xc, cnt, ⟨kn, kp⟩⟩ : Xg)], Y⟩)
          refine hK.out _ _ AG.out.b (fun hHeld => ?_)
          clear hK K AF
          generalize (u3.setRow (e0 + 2) (encRG ⟨e, r, M, za, n + 1, zc, L ++ [(⟨xw, xe, xp, xa, xn, xc, cnt, ⟨kn, kp⟩⟩ : Xg)], Y⟩).toArray) = u4 at *
          (try simp only [Act.put, List.setIfInBounds_toArray, List.set_cons_zero, List.set_cons_succ])
          refine wpAnyH_ready (rs := [4]) (by kernel_rfl) (by simp) (AllReadyH.cons rfl (fun K hK => ?_) AllReadyH.nil)
          clear hHeld
          rw [if_pos (by kernel_rfl)]
          go_simp
          refine hK.out _ _ AG.out.b (fun hHeld => ?_)
          clear hK K hHeld
          (try simp only [Act.put, List.setIfInBounds_toArray, List.set_cons_zero, List.set_cons_succ])
          refine wpAnyH_done (by kernel_rfl) ?_ _
          go_wp2_with fail
          (try simp only [Exit.inBlock, Exit.then])
          exact bodyPost_ret (results_rgp rfl _ _ (e0 + 2) rfl AG.out.z) rfl ⟨⟨e, r, M, za, n + 1, zc, L ++ [(⟨xw, xe, xp, xa, xn, xc, cnt, ⟨kn, kp⟩⟩ : Xg)], Y⟩, by rw [HOK.out]; rfl, fun h => absurd h (by rw [HOK.out]; decide), fun _ => ⟨za, zc, rfl⟩, AG.out.r, AG.out.bel⟩
end Go.Proofs.YtmaiphgmnammgaaDoor
