/- LogSizes: the walk. -/
import Derived.Test.YtblefbjmjhgkkaaZLgOpen
set_option linter.unusedVariables false
set_option maxRecDepth 100000
set_option linter.unusedSimpArgs false
namespace Go.Proofs.Ytblefbjmjhgkkaa
open Go.RowKit Go.Sort

/-- The item of a state that tells that record. -/
def stateI (x : Itm) (r : Rp) : Itm := { x with k := 2, r := r }
theorem codeI_state (x : Itm) (r : Rp) (hr : r.ok) : codeI (stateI x r) = errRec r := by
  have he : errI (stateI x r) = errRec r := rfl
  unfold codeI
  rw [he]
  by_cases h0 : errRec r = 0
  · rw [h0]
    have hf := (errRec_iff hr).1 h0
    have hl := putI_state (stateI x r) rfl hf.few
    rw [if_neg (by rw [hl]; show ¬ 1024 < 40 + 25 * r.pend.length; have := hf.few; omega)]
    rfl
  · exact orN_left h0
theorem stateI_ok {x : Itm} {r : Rp} (hx : x.ok) (hr : r.ok) : (stateI x r).ok := ⟨hx.inc, hx.holds, hr, hx.view, hx.num⟩
theorem size_strOf (c : Nat) (l : List UInt8) : (strOf c l).size = if c = 0 then l.length else 0 := by
  unfold strOf
  split
  · show l.toArray.size = _
    rw [List.size_toArray]
  · rfl
/-- The law's two boxes. -/
structure SzSt (w W : World) (z : StM) (y : ItM) : Prop where
  s : Own W w.heap.size 33 (encS z.s z.a z.k z.c).toArray
  x : Own W (w.heap.size + 1) 43 (encI y.x y.T y.a y.k y.c).toArray
  below : Below w.heap.size w W
theorem SzSt.later {w W W' : World} {z : StM} {y : ItM} (h : SzSt w W z y) (hb : Below W.heap.size W W') : SzSt w W' z y := ⟨h.s.below hb h.s.lt, h.x.below hb h.x.lt, h.below.trans (hb.mono h.below.size)⟩
theorem SzSt.new (w : World) (z : StM) (y : ItM) : SzSt w ((w.alloc (.cells (encS z.s z.a z.k z.c).toArray 33)).alloc (.cells (encI y.x y.T y.a y.k y.c).toArray 43)) z y := by
  obtain ⟨A1, hA1⟩ : ∃ A1, A1 = w.alloc (.cells (encS z.s z.a z.k z.c).toArray 33) := ⟨_, rfl⟩
  have z1 : A1.heap.size = w.heap.size + 1 := by rw [hA1]; simp
  have o1 : Own A1 w.heap.size 33 (encS z.s z.a z.k z.c).toArray := by rw [hA1]; exact Own.new _ _ _
  have g1 : Grw w A1 := by rw [hA1]; exact (Grw.refl _).alloc _
  rw [← hA1]
  have g2 := (Grw.refl A1).alloc (.cells (encI y.x y.T y.a y.k y.c).toArray 43)
  exact ⟨o1.below g2.below o1.lt, by rw [← z1]; exact Own.new _ _ _, (g1.trans g2).below⟩
theorem SzSt.rc {w W : World} {z : StM} {y : ItM} (h : SzSt w W z y) (hz : StIn w z) : RcIn W ⟨z.s.r, z.a, z.k, z.c⟩ := hz.rc.below h.below
set_option maxHeartbeats 4000000 in
theorem walk_LogSizes {w : World} (z : StM) (hz : StIn w z) (y : ItM) (hy : ItIn w y) :
    Calls Try.prog 5 #[valSt z, valIt y] w fun e w' => e = .returned (.bool true) ∧ Below w.heap.size w w' := by
  have S0 := SzSt.new w z y
  have hfew := hy.few
  unfold maxLen at hfew
  obtain ⟨⟨ep, ic, ⟨⟨rn, re, rr, rm⟩, L⟩⟩, a, n, c⟩ := z
  obtain ⟨⟨xk, xd, xi, xh, xa, xb, ⟨⟨qn, qe, qr, qm⟩, M⟩, ⟨vn, ve, vr, vm⟩, xn, xx, xt⟩, T, b, m, d⟩ := y
  simp only at hfew
  have HZ := Lib.hid hz
  have HY := Lib.hid hy
  clear hz hy
  have hR : L.length = n := HZ.out.rc.len
  have HR := Lib.hid hR
  clear hR
  obtain ⟨W0, hW0⟩ : ∃ W0, W0 = (w.alloc (.cells #[.int .u64 (ep : Int), .int .u32 (ic : Int), .int .u64 (rn : Int), .int .u64 (re : Int), .int .i64 rr, .int .u64 (rm : Int), .slice a n c] 33)).alloc (.cells #[.int .i64 xk, .string T, .int .u32 (xi : Int), .int .u64 (xh : Int), .bool xa, .bool xb, .int .u64 (qn : Int), .int .u64 (qe : Int), .int .i64 qr, .int .u64 (qm : Int), .slice b m d, .int .u64 (vn : Int), .int .u64 (ve : Int), .int .i64 vr, .int .u64 (vm : Int), .int .u64 (xn : Int), .int .i64 xx, .int .i64 xt] 43) := ⟨_, rfl⟩
  have S0 : SzSt w W0 ⟨⟨ep, ic, ⟨⟨rn, re, rr, rm⟩, L⟩⟩, a, n, c⟩ ⟨⟨xk, xd, xi, xh, xa, xb, ⟨⟨qn, qe, qr, qm⟩, M⟩, ⟨vn, ve, vr, vm⟩, xn, xx, xt⟩, T, b, m, d⟩ := by rw [hW0]; exact S0
  have PA := awake19 W0
  show Calls Try.prog 5 #[.agg #[.int .u64 (ep : Int), .int .u32 (ic : Int), .int .u64 (rn : Int), .int .u64 (re : Int), .int .i64 rr, .int .u64 (rm : Int), .slice a n c], .agg #[.int .i64 xk, .string T, .int .u32 (xi : Int), .int .u64 (xh : Int), .bool xa, .bool xb, .int .u64 (qn : Int), .int .u64 (qe : Int), .int .i64 qr, .int .u64 (qm : Int), .slice b m d, .int .u64 (vn : Int), .int .u64 (ve : Int), .int .i64 vr, .int .u64 (vm : Int), .int .u64 (xn : Int), .int .i64 xx, .int .i64 xt]] w _
  go_enter Try.func5, Try.ntmps5
  go_upto_region 1 with fail
  rw [← hW0]
  clear hW0
  go_wp2_with fail
  refine PA.mono ?_
  rintro e w1 ⟨rfl, L1⟩
  have S1 := S0.later L1
  clear PA S0 L1
  have c6 : w1.cell? ⟨w.heap.size, 6, none⟩ = some (.slice a n c) := S1.s.at_ 6 _ rfl
  have d10 : w1.cell? ⟨w.heap.size + 1, 10, none⟩ = some (.slice b m d) := S1.x.at_ 10 _ rfl
  have d1 : w1.cell? ⟨w.heap.size + 1, 1, none⟩ = some (.string T) := S1.x.at_ 1 _ rfl
  by_cases hn : 300 < n
  · have hi : (300 : Int) < (n : Int) := by omega
    have HB := Lib.hid S1.below
    clear S1
    go_wp2
    go_ret
    exact ⟨rfl, HB.out⟩
  by_cases hm : 300 < m
  · have hi : ¬ (300 : Int) < (n : Int) := by omega
    have hj : (300 : Int) < (m : Int) := by omega
    have HB := Lib.hid S1.below
    clear S1
    go_wp2
    go_ret
    exact ⟨rfl, HB.out⟩
  by_cases hT : 5000 < T.size
  · have hi : ¬ (300 : Int) < (n : Int) := by omega
    have hj : ¬ (300 : Int) < (m : Int) := by omega
    have hk : (5000 : Int) < (T.size : Int) := by omega
    have HB := Lib.hid S1.below
    clear S1
    go_wp2
    go_ret
    exact ⟨rfl, HB.out⟩
  have hi : ¬ (300 : Int) < (n : Int) := by omega
  have hj : ¬ (300 : Int) < (m : Int) := by omega
  have hk : ¬ (5000 : Int) < (T.size : Int) := by omega
  have O1 := S1.s
  have P1 := lprintS w1 ⟨ep, ic, ⟨⟨rn, re, rr, rm⟩, L⟩⟩ a n c (S1.rc HZ.out) HZ.out.ep HZ.out.inc (by omega)
  have hc0 := codeI_state ⟨xk, xd, xi, xh, xa, xb, ⟨⟨qn, qe, qr, qm⟩, M⟩, ⟨vn, ve, vr, vm⟩, xn, xx, xt⟩ ⟨⟨rn, re, rr, rm⟩, L⟩ HZ.out.rc.ok
  have hF := fun h => ((errRec_iff HZ.out.rc.ok).1 h).few
  have hSz1 := size_strOf (errRec ⟨⟨rn, re, rr, rm⟩, L⟩) (putS ⟨ep, ic, ⟨⟨rn, re, rr, rm⟩, L⟩⟩)
  rw [putS_length] at hSz1
  have hSz2 := size_strOf (errRec ⟨⟨rn, re, rr, rm⟩, L⟩) (putI (stateI ⟨xk, xd, xi, xh, xa, xb, ⟨⟨qn, qe, qr, qm⟩, M⟩, ⟨vn, ve, vr, vm⟩, xn, xx, xt⟩ ⟨⟨rn, re, rr, rm⟩, L⟩))
  have hPl := fun h => putI_state (stateI ⟨xk, xd, xi, xh, xa, xb, ⟨⟨qn, qe, qr, qm⟩, M⟩, ⟨vn, ve, vr, vm⟩, xn, xx, xt⟩ ⟨⟨rn, re, rr, rm⟩, L⟩) rfl h
  simp only [stateI, HR.out] at hF hSz1 hSz2 hPl
  have PI := fun W (hW : RcIn W ⟨⟨⟨rn, re, rr, rm⟩, L⟩, a, n, c⟩) => lprintI W (stateI ⟨xk, xd, xi, xh, xa, xb, ⟨⟨qn, qe, qr, qm⟩, M⟩, ⟨vn, ve, vr, vm⟩, xn, xx, xt⟩ ⟨⟨rn, re, rr, rm⟩, L⟩) T a n c HY.out.text (by omega) (stateI_ok HY.out.ok HZ.out.rc.ok) hW (by omega)
  rw [hc0] at PI
  simp only [stateI] at PI
  generalize strOf (errRec ⟨⟨rn, re, rr, rm⟩, L⟩) (putS ⟨ep, ic, ⟨⟨rn, re, rr, rm⟩, L⟩⟩) = t at *
  generalize hpi : putI _ = pi at hSz2 hPl PI
  generalize strOf (errRec ⟨⟨rn, re, rr, rm⟩, L⟩) pi = u at *
  generalize errRec ⟨⟨rn, re, rr, rm⟩, L⟩ = er at *
  have H1 : Hid (er = 0 → t.size = 39 + 25 * n ∧ u.size = 40 + 25 * n ∧ n ≤ 32) := Lib.hid fun h => ⟨by rw [hSz1, if_pos h], by rw [hSz2, if_pos h]; exact hPl (hF h), hF h⟩
  have H2 : Hid (er ≠ 0 → t.size = 0 ∧ u.size = 0) := Lib.hid fun h => ⟨by rw [hSz1, if_neg h], by rw [hSz2, if_neg h]⟩
  have HPI := Lib.hid PI
  clear hc0 hF hSz1 hSz2 hPl hpi hn hm hT hfew PI
  go_wp2_with (refine load_stable rfl (.tmp 2) rfl w.heap.size rfl O1 ?_)
  refine P1.mono ?_
  rintro e w2 ⟨rfl, L2⟩
  have S2 := S1.later L2
  clear P1 O1 S1 L2 c6 d10 d1
  have a2 : w2.cell? ⟨w.heap.size, 2, none⟩ = some (.int .u64 (rn : Int)) := S2.s.at_ 2 _ rfl
  have a3 : w2.cell? ⟨w.heap.size, 3, none⟩ = some (.int .u64 (re : Int)) := S2.s.at_ 3 _ rfl
  have a4 : w2.cell? ⟨w.heap.size, 4, none⟩ = some (.int .i64 rr) := S2.s.at_ 4 _ rfl
  have a5 : w2.cell? ⟨w.heap.size, 5, none⟩ = some (.int .u64 (rm : Int)) := S2.s.at_ 5 _ rfl
  have a6 : w2.cell? ⟨w.heap.size, 6, none⟩ = some (.slice a n c) := S2.s.at_ 6 _ rfl
  have e0 : w2.cell? ⟨w.heap.size + 1, 0, none⟩ = some (.int .i64 xk) := S2.x.at_ 0 _ rfl
  have e6 : w2.cell? ⟨w.heap.size + 1, 6, none⟩ = some (.int .u64 (qn : Int)) := S2.x.at_ 6 _ rfl
  have e7 : w2.cell? ⟨w.heap.size + 1, 7, none⟩ = some (.int .u64 (qe : Int)) := S2.x.at_ 7 _ rfl
  have e8 : w2.cell? ⟨w.heap.size + 1, 8, none⟩ = some (.int .i64 qr) := S2.x.at_ 8 _ rfl
  have e9 : w2.cell? ⟨w.heap.size + 1, 9, none⟩ = some (.int .u64 (qm : Int)) := S2.x.at_ 9 _ rfl
  have e10 : w2.cell? ⟨w.heap.size + 1, 10, none⟩ = some (.slice b m d) := S2.x.at_ 10 _ rfl
  have f0 := S2.x.free 0
  have f6 := S2.x.free 6
  have f7 := S2.x.free 7
  have f8 := S2.x.free 8
  have f9 := S2.x.free 9
  have f10 := S2.x.free 10
  obtain ⟨w3, hw3⟩ : ∃ w3, w3 = (((((w2.setCell ⟨w.heap.size + 1, 0, none⟩ (.int .i64 2)).setCell ⟨w.heap.size + 1, 6, none⟩ (.int .u64 (rn : Int))).setCell ⟨w.heap.size + 1, 7, none⟩ (.int .u64 (re : Int))).setCell ⟨w.heap.size + 1, 8, none⟩ (.int .i64 rr)).setCell ⟨w.heap.size + 1, 9, none⟩ (.int .u64 (rm : Int))).setCell ⟨w.heap.size + 1, 10, none⟩ (.slice a n c) := ⟨_, rfl⟩
  have X3 : Own w3 (w.heap.size + 1) 43 (encI ⟨2, xd, xi, xh, xa, xb, ⟨⟨rn, re, rr, rm⟩, L⟩, ⟨vn, ve, vr, vm⟩, xn, xx, xt⟩ T a n c).toArray := by rw [hw3]; exact (((((S2.x.set 0 (.int .i64 2)).set 6 (.int .u64 (rn : Int))).set 7 (.int .u64 (re : Int))).set 8 (.int .i64 rr)).set 9 (.int .u64 (rm : Int))).set 10 (.slice a n c)
  have S3 : Own w3 w.heap.size 33 (encS ⟨ep, ic, ⟨⟨rn, re, rr, rm⟩, L⟩⟩ a n c).toArray := by rw [hw3]; exact (((((S2.s.set_other _ _ _ (by omega)).set_other _ _ _ (by omega)).set_other _ _ _ (by omega)).set_other _ _ _ (by omega)).set_other _ _ _ (by omega)).set_other _ _ _ (by omega)
  have B3 : Below w.heap.size w w3 := by rw [hw3]; exact (((((S2.below.setCell (Nat.le_succ _) _).setCell (Nat.le_succ _) _).setCell (Nat.le_succ _) _).setCell (Nat.le_succ _) _).setCell (Nat.le_succ _) _).setCell (Nat.le_succ _) _
  have P3 := HPI.out w3 (HZ.out.rc.below B3)
  clear S2 HPI
  go_upto_region 8 with fail
  rw [← hw3]
  clear hw3 a2 a3 a4 a5 a6 e0 e6 e7 e8 e9 e10 f0 f6 f7 f8 f9 f10
  go_wp2_with (refine load_item rfl (.tmp 3) rfl (w.heap.size + 1) rfl X3 ?_)
  refine P3.mono ?_
  rintro e w4 ⟨rfl, L4⟩
  have S4 := S3.below L4 S3.lt
  have c6 : w4.cell? ⟨w.heap.size, 6, none⟩ = some (.slice a n c) := S4.at_ 6 _ rfl
  have B4 := Lib.hid (B3.trans (L4.mono B3.size))
  clear P3 X3 S3 B3 L4 S4
  by_cases h0 : er = 0
  · obtain ⟨h1, h2, h3⟩ := H1.out h0
    subst h0
    have i1 : (t.size : Int) = 39 + 25 * (n : Int) := by omega
    have i2 : (u.size : Int) = 40 + 25 * (n : Int) := by omega
    obtain ⟨tn, htn⟩ : ∃ tn : Nat, t.size = tn := ⟨_, rfl⟩
    obtain ⟨un, hun⟩ : ∃ un : Nat, u.size = un := ⟨_, rfl⟩
    rw [htn] at h1 i1
    rw [hun] at h2 i2
    have j1 : ¬ (8192 : Int) < (tn : Int) := by omega
    have j2 : ¬ (1024 : Int) < (un : Int) := by omega
    have j3 : IntKind.i64.wrap (25 * (n : Int)) = 25 * (n : Int) := by rw [IntKind.wrap_i64]; omega
    have j4 : IntKind.i64.wrap (39 + 25 * (n : Int)) = (tn : Int) := by rw [IntKind.wrap_i64]; omega
    have j5 : IntKind.i64.wrap (40 + 25 * (n : Int)) = (un : Int) := by rw [IntKind.wrap_i64]; omega
    clear h1 h2 i1 i2 H1 H2
    go_wp2
    go_ret
    exact ⟨rfl, B4.out⟩
  · obtain ⟨h1, h2⟩ := H2.out h0
    obtain ⟨tn, htn⟩ : ∃ tn : Nat, t.size = tn := ⟨_, rfl⟩
    obtain ⟨un, hun⟩ : ∃ un : Nat, u.size = un := ⟨_, rfl⟩
    rw [htn] at h1
    rw [hun] at h2
    have j1 : ¬ (8192 : Int) < (tn : Int) := by omega
    have j2 : ¬ (1024 : Int) < (un : Int) := by omega
    have j3 : ((er : Int) != 0) = true := by simpa using h0
    have j4 : ¬ (er : Int) = 0 := by omega
    clear h1 h2 H1 H2
    go_wp2
    go_ret
    exact ⟨rfl, B4.out⟩
end Go.Proofs.Ytblefbjmjhgkkaa
