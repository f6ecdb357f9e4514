/- One act; the answers that the document fixes first. -/
import Derived.Test.YtncldnenlchpnaaHzCopy
set_option linter.unusedVariables false
set_option linter.unusedSimpArgs false
namespace Go.Proofs.Ytncldnenlchpnaa
open Go.RowKit Go.Sort Go.Shelf

/-- An act in a block of its own. -/
def ZaB (w : World) (g : Nat) (a : ZA) : Prop := Own w g 32 #[.int .i64 a.kind, .int .i64 a.p, .int .u32 (a.seq : Int), .int .u64 (a.st : Int)]
theorem gone_see {w w' : World} {g B : Nat} {H' : Hz} {s : ZSl} (h : HzAt w' g B H' s ∧ ZMoved w w' g s.a s.a) : Gone13 w w' g B s H' := Gone13.mk' h.1 h.2
section
variable {w : World} {g B : Nat} {H : Hz} {s : ZSl}
set_option maxHeartbeats 4000000 in
theorem zdo (h : HzAt w g B H s) (hn : H.wait.length ≤ 99999) (a : ZA) (ha : a.ok) :
    Calls Try.prog 12 #[.pointer (some ⟨g, 0, none⟩), .agg #[.int .i64 a.kind, .int .i64 a.p, .int .u32 (a.seq : Int), .int .u64 (a.st : Int)]] w fun e w' => e = .returned (.int .u64 (ansZ H a : Nat)) ∧ Gone13 w w' g B s (stepZ H a) := by
  have BB := ((Grw.refl w).alloc (.cells #[.int .i64 a.kind, .int .i64 a.p, .int .u32 (a.seq : Int), .int .u64 (a.st : Int)] 32)).below
  have A := h.below BB
  have HM := Lib.hid (ZMoved.of_below BB g s.a)
  by_cases e0 : a.kind = 0
  · obtain ⟨E1, E2⟩ := stepZ_0 (H := H) e0
    rw [E1, E2]
    have K := Lib.hid (zcame A (by omega) a.p ha.p0 ha.p1 a.seq a.st ha.q ha.s)
    obtain ⟨kk, p, q, st⟩ := a
    simp only at *
    subst e0
    clear h A BB E1 E2 ha
    go_enter Try.func12, Try.ntmps12
    go_wp2_with fail
    refine K.out.mono ?_
    rintro e w1 ⟨rfl, G⟩
    have G := Lib.hid (G.after (s := s) HM.out)
    go_wp2
    go_ret
    exact ⟨rfl, G.out⟩
  by_cases e1 : a.kind = 1
  · obtain ⟨E1, E2⟩ := stepZ_1 (H := H) e1
    rw [E1, E2]
    have K := Lib.hid (zprom A hn a.p ha.p0 ha.p1 a.st a.seq ha.s ha.q)
    obtain ⟨kk, p, q, st⟩ := a
    simp only at *
    subst e1
    clear h A BB E1 E2 ha e0
    go_enter Try.func12, Try.ntmps12
    go_wp2_with fail
    refine K.out.mono ?_
    rintro e w1 ⟨rfl, G⟩
    have G := Lib.hid (G.after (s := s) HM.out)
    go_wp2
    go_ret
    exact ⟨rfl, G.out⟩
  by_cases e2 : a.kind = 2
  · obtain ⟨E1, E2⟩ := stepZ_2 (H := H) e2
    rw [E1, E2]
    have K := Lib.hid (zreached A a.p ha.p0 ha.p1 a.st ha.s)
    obtain ⟨kk, p, q, st⟩ := a
    simp only at *
    subst e2
    clear h A BB E1 E2 ha e0 e1
    go_enter Try.func12, Try.ntmps12
    go_wp2_with fail
    refine K.out.mono ?_
    rintro e w1 ⟨rfl, G⟩
    have G := Lib.hid ((gone_see G).after (s := s) HM.out)
    go_wp2
    go_ret
    exact ⟨rfl, G.out⟩
  by_cases e3 : a.kind = 3
  · obtain ⟨E1, E2⟩ := stepZ_3 (H := H) e3
    rw [E1, E2]
    have K := Lib.hid (zstamp A)
    obtain ⟨kk, p, q, st⟩ := a
    simp only at *
    subst e3
    clear h A BB E1 E2 ha e0 e1 e2
    generalize (stampZ H).clock = z at *
    go_enter Try.func12, Try.ntmps12
    go_wp2_with fail
    refine K.out.mono ?_
    rintro e w1 ⟨rfl, G⟩
    have G := Lib.hid ((gone_see G).after (s := s) HM.out)
    go_wp2
    go_ret
    exact ⟨rfl, G.out⟩
  by_cases e4 : a.kind = 4
  · obtain ⟨E1, E2⟩ := stepZ_4 (H := H) e4
    rw [E1, E2]
    have K := Lib.hid (zsee A a.st ha.s)
    obtain ⟨kk, p, q, st⟩ := a
    simp only at *
    subst e4
    clear h A BB E1 E2 ha e0 e1 e2 e3
    go_enter Try.func12, Try.ntmps12
    go_wp2_with fail
    refine K.out.mono ?_
    rintro e w1 ⟨rfl, G⟩
    have G := Lib.hid ((gone_see G).after (s := s) HM.out)
    go_wp2
    go_ret
    exact ⟨rfl, G.out⟩
  · obtain ⟨E1, E2⟩ := stepZ_else (H := H) (a := a) (by omega)
    rw [E1, E2]
    have t0 : (a.kind == 0) = false := beq_eq_false_iff_ne.2 e0
    have t1 : (a.kind == 1) = false := beq_eq_false_iff_ne.2 e1
    have t2 : (a.kind == 2) = false := beq_eq_false_iff_ne.2 e2
    have t3 : (a.kind == 3) = false := beq_eq_false_iff_ne.2 e3
    have t4 : (a.kind == 4) = false := beq_eq_false_iff_ne.2 e4
    have HA := Lib.hid A
    clear h A BB E1 E2 ha e0 e1 e2 e3 e4
    go_enter Try.func12, Try.ntmps12
    go_wp2
    go_ret
    exact ⟨rfl, Gone13.mk' HA.out HM.out⟩
end
theorem InI.twoZ (w : World) (x y : Int) (hx0 : -9223372036854775808 ≤ x) (hx1 : x ≤ 9223372036854775807) (hy0 : -9223372036854775808 ≤ y) (hy1 : y ≤ 9223372036854775807) : InI (w.alloc (.cells #[.int .i64 x, .int .i64 y] 3)) (some ⟨w.heap.size, 0, none⟩) 2 [x, y] := ⟨rfl, fun j v hj => ⟨_, rfl, by
    match j with
    | 0 => simp at hj; subst hj; simp [Addr.add]
    | 1 => simp at hj; subst hj; simp [Addr.add]
    | j + 2 => simp at hj⟩, fun v hv => by simp at hv; rcases hv with rfl | rfl <;> omega⟩
def aZ0 : Hz := newZ 0 3
def aZ1 : Hz := promZ aZ0 1 6 2
def aZ2 : Hz := cameZ aZ1 1 1 4
def aZ3 : Hz := reachZ aZ2 1 4
def aZ4 : Hz := cameZ aZ3 1 2 5
theorem az_of : (ofl [0, 1] : Nat) = 3 := by decide +kernel
theorem az_2 : allN aZ2 = 4 ∧ safeN aZ2 = 0 := by decide +kernel
theorem az_3 : safeN aZ3 = 4 := by decide +kernel
theorem az_4 : allN aZ4 = 6 ∧ aZ4.clock = 6 ∧ (stampZ aZ4).clock = 7 := by decide +kernel
theorem az_n : aZ0.wait.length ≤ 99999 ∧ aZ1.wait.length ≤ 100000 ∧ aZ3.wait.length ≤ 100000 := by decide +kernel
/-- A horizon made since w, at g. -/
def NewZ (w w' : World) (g : Nat) (H : Hz) : Prop := ∃ s, HzAt w' g w.heap.size H s ∧ Below w.heap.size w w'
theorem NewZ.gone {w w1 w2 : World} {g : Nat} {H H' : Hz} {s : ZSl} (h : HzAt w1 g w.heap.size H s) (hb : Below w.heap.size w w1) (k : Gone13 w1 w2 g w.heap.size s H') : NewZ w w2 g H' := by
  obtain ⟨s', h1, h2⟩ := k.ex
  exact ⟨s', h1, hb.trans ((h2.below h (Nat.le_refl _)).mono (Nat.le_refl _))⟩
set_option maxHeartbeats 8000000 in
theorem zawake (w : World) : Calls Try.prog 7 #[] w fun e w' => e = .returned (.bool true) ∧ Below w.heap.size w w' := by
  have HO := of_any (some ⟨w.heap.size, 0, none⟩) 2 2 [0, 1] _ (InI.twoZ w 0 1 (by decide) (by decide) (by decide) (by decide)) (by decide)
  rw [az_of] at HO
  have B0 := ((Grw.refl w).alloc (.cells #[.int .i64 0, .int .i64 1] 3)).below
  obtain ⟨g, hg⟩ : ∃ g, g = (w.alloc (.cells #[.int .i64 0, .int .i64 1] 3)).heap.size + 1 := ⟨_, rfl⟩
  have H0 := znew 0 3 (w.alloc (.cells #[.int .i64 0, .int .i64 1] 3)) (by decide) (by decide) (by decide)
  rw [← hg] at H0
  have H0 := Lib.hid H0
  have L0 := Lib.hid B0
  clear hg B0
  go_enter Try.func7, Try.ntmps7
  go_wp2_with fail
  refine HO.mono ?_
  rintro e w' ⟨rfl, rfl⟩
  go_wp2_with fail
  refine H0.out.mono ?_
  rintro e w1 ⟨rfl, A1, L1⟩
  have hsz : w.heap.size ≤ (w.alloc (.cells #[.int .i64 0, .int .i64 1] 3)).heap.size := L0.out.size
  have N1 : NewZ w w1 g aZ0 := ⟨_, ⟨A1.own, A1.row, by have := A1.base; omega, (fun x hx => by cases hx), A1.ok⟩, L0.out.trans (L1.mono hsz)⟩
  clear H0 HO L0 A1 L1 hsz
  obtain ⟨s1, A1, L1⟩ := N1
  have K1 := Lib.hid (zprom A1 az_n.1 1 (by decide) (by decide) 6 2 (by decide) (by decide))
  have A1 := Lib.hid A1
  have L1 := Lib.hid L1
  go_wp2_with fail
  refine K1.out.mono ?_
  rintro e w2 ⟨rfl, G⟩
  obtain ⟨s2, A2, L2⟩ := NewZ.gone (H' := aZ1) A1.out L1.out G
  have K2 := Lib.hid (zcame A2 az_n.2.1 1 (by decide) (by decide) 1 4 (by decide) (by decide))
  have A2 := Lib.hid A2
  have L2 := Lib.hid L2
  clear K1 G A1 L1
  go_wp2_with fail
  refine K2.out.mono ?_
  rintro e w3 ⟨rfl, G⟩
  obtain ⟨s3, A3, L3⟩ := NewZ.gone (H' := aZ2) A2.out L2.out G
  have Q1 := zall A3
  have Q2 := zsafe A3
  rw [az_2.1] at Q1
  rw [az_2.2] at Q2
  have K3 := Lib.hid (zreached A3 1 (by decide) (by decide) 4 (by decide))
  have A3 := Lib.hid A3
  have L3 := Lib.hid L3
  have Q1 := Lib.hid Q1
  have Q2 := Lib.hid Q2
  clear K2 G A2 L2
  go_wp2_with fail
  refine Q1.out.mono ?_
  rintro e w' ⟨rfl, rfl⟩
  go_wp2_with fail
  refine Q2.out.mono ?_
  rintro e w' ⟨rfl, rfl⟩
  clear Q1 Q2
  go_wp2_with fail
  refine K3.out.mono ?_
  rintro e w4 ⟨rfl, G⟩
  obtain ⟨s4, A4, L4⟩ := NewZ.gone (H' := aZ3) A3.out L3.out (gone_see G)
  have Q1 := zsafe A4
  rw [az_3] at Q1
  have K4 := Lib.hid (zcame A4 az_n.2.2 1 (by decide) (by decide) 2 5 (by decide) (by decide))
  have A4 := Lib.hid A4
  have L4 := Lib.hid L4
  have Q1 := Lib.hid Q1
  clear K3 G A3 L3
  go_wp2_with fail
  refine Q1.out.mono ?_
  rintro e w' ⟨rfl, rfl⟩
  clear Q1
  go_wp2_with fail
  refine K4.out.mono ?_
  rintro e w5 ⟨rfl, G⟩
  obtain ⟨s5, A5, L5⟩ := NewZ.gone (H' := aZ4) A4.out L4.out G
  have Q1 := zall A5
  have Q2 := zclock A5
  have Q3 := zstamp A5
  rw [az_4.1] at Q1
  rw [az_4.2.1] at Q2
  rw [az_4.2.2] at Q3
  have A5 := Lib.hid A5
  have L5 := Lib.hid L5
  have Q1 := Lib.hid Q1
  have Q2 := Lib.hid Q2
  have Q3 := Lib.hid Q3
  clear K4 G A4 L4
  go_wp2_with fail
  refine Q1.out.mono ?_
  rintro e w' ⟨rfl, rfl⟩
  go_wp2_with fail
  refine Q2.out.mono ?_
  rintro e w' ⟨rfl, rfl⟩
  go_wp2_with fail
  refine Q3.out.mono ?_
  rintro e w6 ⟨rfl, G⟩
  obtain ⟨s6, A6, L6⟩ := NewZ.gone (H' := stampZ aZ4) A5.out L5.out (gone_see G)
  clear Q1 Q2 Q3 G A5 L5 A6
  go_wp2
  go_ret
  exact ⟨rfl, L6⟩
end Go.Proofs.Ytncldnenlchpnaa
