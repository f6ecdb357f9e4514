/- Layer 15: the document's own answers: lost. -/
import Derived.Test.YtfocjcdfpnbkjaaPlRefE
import Derived.Test.YtfocjcdfpnbkjaaPlHas
set_option linter.unusedVariables false
set_option maxRecDepth 100000
set_option linter.unusedSimpArgs false
namespace Go.Proofs.Ytfocjcdfpnbkjaa
open Go.RowKit Go.Sort Go.Shelf Go.Maps

/-- Is a number of its Deps beyond what is there? -/
def BadDep (f : Nat → Wh) (q : Nat) (d : Int) : Prop := 64 ≤ q ∧ 0 < d ∨ q < 64 ∧ (f q).n < d
/-- Does m lean on x, in the document's words? -/
def LeanD (m x : Mg) : Prop := x.f = m.f ∧ x.q ≤ m.q ∨ x.q ≤ depAt m x.f
/-- Must it be given up, where some are? -/
def LostP (f : Nat → Wh) (R : List Mg) (G : List Bool) (m : Mg) : Prop :=
  (∃ (q : Nat) (d : Int), m.deps[q]? = some d ∧ BadDep f q d) ∨ ∃ (i : Nat) (x : Mg), R[i]? = some x ∧ G[i]? = some true ∧ LeanD m x
def LostSaid (w : World) (f : Nat → Wh) (R : List Mg) (G : List Bool) (m : Mg) (e : Ending) (w' : World) : Prop :=
  (e = .returned (.bool true) ∧ LostP f R G m ∨ e = .returned (.bool false) ∧ ¬ LostP f R G m) ∧ Below w.heap.size w w'
theorem depAt_atL (m : Mg) (p : Int) : depAt m p = atL m.deps p := rfl
set_option maxHeartbeats 8000000 in
theorem refLost {w : World} {ao ro go' : Option Addr} {n rn gn : Nat} {C : List Xg} {R : List Mg} {G : List Bool} (h : XgL w ao n C) (c rc gc : Nat) (hn : n ≤ 1048576) (hr : Lst encG 6 w ro rn R) (hd : ∀ x ∈ R, DpIn w x) (hg : Lst (fun b : Bool => [.bool b]) 1 w go' gn G) (hrg : gn = rn) (hrn : rn ≤ 1048576) (m : Mg) (hm : DpIn w m) (hdl : m.dl ≤ 1048576) :
    Calls Try.prog 101 #[.slice ao n c, .slice ro rn rc, .slice go' gn gc, .agg (encG m).toArray] w (LostSaid w (whL C) R G m) := by
  have B1 := ((Grw.refl w).alloc (.cells (encG m).toArray 47)).below
  have M1 := Lib.hid (MgB.new w m)
  have HB1 := Lib.hid B1
  have HL1 := Lib.hid (h.below B1)
  have HR := Lib.hid hr
  have HG := Lib.hid hg
  have HDM := Lib.hid (hm.below B1)
  have HLEN := Lib.hid hr.size
  have HGEN := Lib.hid hg.size
  subst hrg
  clear h B1 hr hg hd hm
  have HYES : Hid (∀ W, LostP (whL C) R G m → Below w.heap.size w W → LostSaid w (whL C) R G m (.returned (.bool true)) W) := Lib.hid fun W h1 h2 => ⟨.inl ⟨rfl, h1⟩, h2⟩
  have HNO : Hid (∀ W, ¬ LostP (whL C) R G m → Below w.heap.size w W → LostSaid w (whL C) R G m (.returned (.bool false)) W) := Lib.hid fun W h1 h2 => ⟨.inr ⟨rfl, h1⟩, h2⟩
  have HDEP : Hid (∀ (q : Nat) (d : Int), m.deps[q]? = some d → BadDep (whL C) q d → LostP (whL C) R G m) := Lib.hid fun q d h1 h2 => .inl ⟨q, d, h1, h2⟩
  have HLEA : Hid (∀ (i : Nat) (x : Mg), R[i]? = some x → G[i]? = some true → LeanD m x → LostP (whL C) R G m) := Lib.hid fun i x h1 h2 h3 => .inr ⟨i, x, h1, h2, h3⟩
  have HNON : Hid ((∀ (q : Nat) (d : Int), m.deps[q]? = some d → ¬ BadDep (whL C) q d) → (∀ (i : Nat) (x : Mg), R[i]? = some x → G[i]? = some true → ¬ LeanD m x) → ¬ LostP (whL C) R G m) := Lib.hid fun h1 h2 h => by
    rcases h with ⟨q, d, h3, h4⟩ | ⟨i, x, h3, h4, h5⟩
    · exact h1 q d h3 h4
    · exact h2 i x h3 h4 h5
  generalize hS : LostSaid w (whL C) R G m = SD at *
  generalize hP : LostP (whL C) R G m = PD at *
  clear hS hP
  obtain ⟨f, q, s, v, a, dl, dc, deps, text⟩ := m
  simp only at M1 hdl HDEP HNON
  unfold encG at HB1 HL1 HDM ⊢
  simp only at HB1 HL1 HDM
  go_enter Try.func101, Try.ntmps101
  go_upto_region 1 with fail
  generalize w.alloc (.cells #[.int .i64 f, .int .u32 q, .int .u64 s, .int .i64 v, .slice a dl dc, .string text] 47) = w1 at *
  obtain ⟨mb, hmb⟩ : ∃ mb, mb = w.heap.size := ⟨_, rfl⟩
  rw [← hmb] at M1
  try rw [← hmb]
  clear hmb
  go_wp2
  go_loopw [9] (fun si wr => ∃ k : Nat, k ≤ dl ∧ si = .int .i64 k ∧ Aside (Below w1.heap.size w1 wr) ∧ Aside (∀ (j : Nat) (d : Int), j < k → deps[j]? = some d → ¬ BadDep (whL C) j d)) (fun si _ => dl - (intOf si).toNat)
  case atStart => exact ⟨0, Nat.zero_le _, rfl, Below.refl _ _, fun j d hj => absurd hj (Nat.not_lt_zero _)⟩
  case round =>
    obtain ⟨k, hk, rfl, HB, HA⟩ := hrel
    have c4 : wr.cell? ⟨mb, 4, none⟩ = some (.slice a dl dc) := cell_later HB.out (M1.out.own.at_ 4 _ rfl)
    by_cases hlt : k < dl
    · obtain ⟨bd, od, rfl, hrd⟩ := HDM.out.src (show 0 < dl by omega)
      have hkd : k < deps.length := by have := HDM.out.size; simp only at this; omega
      obtain ⟨z, hz⟩ : ∃ z, deps[k]? = some z := ⟨_, List.getElem?_eq_getElem hkd⟩
      have e0 : wr.cell? ⟨bd, od + k, none⟩ = some (.int .u32 z) := by
        have := cell_later HB.out (hrd k z hz 0 _ rfl)
        simpa using this
      have HZ := Lib.hid hz
      have PW := fun n' => refWhole ((HL1.out.below HB.out).below ((Grw.refl wr).drewN n').below) c hn (k : Int)
      have HWI := Lib.hid (show k < 64 → wholeP (whL C) (k : Int) = (whL C k).n from fun h => by rw [whole_in _ _ (by omega) (by omega), Int.toNat_natCast])
      have HNX := Lib.hid (show ¬ BadDep (whL C) k z → ∀ (j : Nat) (d : Int), j < k + 1 → deps[j]? = some d → ¬ BadDep (whL C) j d from fun hb j d hj hd => by
        by_cases e : j = k
        · subst e; rw [HZ.out] at hd; cases hd; exact hb
        · exact HA.out j d (by omega) hd)
      clear hrd hkd hz
      obtain ⟨u, hu⟩ : ∃ u, u = wholeP (whL C) (k : Int) := ⟨_, rfl⟩
      rw [← hu] at PW HWI
      clear hu
      go_upto_region 4 with fail
      by_cases h63 : 63 < k
      · have d1 : decide ((63 : Int) < (k : Int)) = true := decide_eq_true (by omega)
        have d2 : decide ((k : Int) < 64) = false := decide_eq_false (by omega)
        cases t1 : decide (0 < z) with
        | true =>
          have HQ := Lib.hid (HDEP.out k z HZ.out (.inl ⟨by omega, of_decide_eq_true t1⟩))
          go_quiet (fail)
          have HB2 := Lib.hid (HB1.out.trans ((HB.out.trans (((Grw.refl wr).drewN nq).below.mono HB.out.size)).mono HB1.out.size))
          go_wp2
          exact HYES.out _ HQ.out HB2.out
        | false =>
          have HA2 := Lib.hid (HNX.out (fun hb => by rcases hb with hb | hb; · exact of_decide_eq_false t1 hb.2
                                                     · omega))
          go_quiet (fail)
          have HB2 := Lib.hid (HB.out.trans (((Grw.refl wr).drewN nq).below.mono HB.out.size))
          clear HB e0 c4 PW
          go_wp2
          go_roundw
          case rel => exact ⟨k + 1, by omega, by go_num, HB2.out, HA2.out⟩
          case measure => simp [intOf]; omega
      · have d1 : decide ((63 : Int) < (k : Int)) = false := decide_eq_false (by omega)
        have d2 : decide ((k : Int) < 64) = true := decide_eq_true (by omega)
        cases t1 : decide (u < z) with
        | true =>
          have HQ := Lib.hid (HDEP.out k z HZ.out (.inr ⟨by omega, by rw [← HWI.out (by omega)]; exact of_decide_eq_true t1⟩))
          go_quiet ((go_at_call 47; exact Calls.quiet_of_same ((PW _).mono fun _ _ ⟨he, hw⟩ => ⟨he, hw.symm⟩)))
          have HB2 := Lib.hid (HB1.out.trans ((HB.out.trans (((Grw.refl wr).drewN nq).below.mono HB.out.size)).mono HB1.out.size))
          go_wp2
          exact HYES.out _ HQ.out HB2.out
        | false =>
          have HA2 := Lib.hid (HNX.out (fun hb => by
            rcases hb with hb | hb
            · omega
            · have := HWI.out (by omega); exact of_decide_eq_false t1 (by rw [this]; exact hb.2)))
          go_quiet ((go_at_call 47; exact Calls.quiet_of_same ((PW _).mono fun _ _ ⟨he, hw⟩ => ⟨he, hw.symm⟩)))
          have HB2 := Lib.hid (HB.out.trans (((Grw.refl wr).drewN nq).below.mono HB.out.size))
          clear HB e0 c4 PW
          go_wp2
          go_roundw
          case rel => exact ⟨k + 1, by omega, by go_num, HB2.out, HA2.out⟩
          case measure => simp [intOf]; omega
    · have HAL := Lib.hid (show ∀ (q : Nat) (d : Int), deps[q]? = some d → ¬ BadDep (whL C) q d from fun j d hd => HA.out j d (by have := (List.getElem?_eq_some_iff.1 hd).1; have := HDM.out.size; simp only at this; omega) hd)
      have HBX := Lib.hid (HB1.out.trans (HB.out.mono HB1.out.size))
      have M2 := Lib.hid (M1.out.later HB.out)
      have HDM2 := Lib.hid (HDM.out.below HB.out)
      go_wp2
      clear HA HB c4 HDEP HL1 M1 HDM HB1
      obtain ⟨wq, hwq⟩ : ∃ wq, wq = wr := ⟨_, rfl⟩
      subst hwq
      go_loopw [10] (fun si wr => ∃ i : Nat, i ≤ gn ∧ si = .int .i64 i ∧ Aside (Below wq.heap.size wq wr) ∧ Aside (∀ (j : Nat) (x : Mg), j < i → R[j]? = some x → G[j]? = some true → ¬ LeanD ⟨f, q, s, v, a, dl, dc, deps, text⟩ x)) (fun si _ => gn - (intOf si).toNat)
      case atStart => exact ⟨0, Nat.zero_le _, rfl, Below.refl _ _, fun j x hj => absurd hj (Nat.not_lt_zero _)⟩
      case round =>
        obtain ⟨i, hi, rfl, HB, HA⟩ := hrel
        by_cases hlt2 : i < gn
        · obtain ⟨br, ob, rfl, hrr⟩ := HR.out.src (show 0 < gn by omega)
          obtain ⟨bg, og, rfl, hgg⟩ := HG.out.src (show 0 < gn by omega)
          have hil : i < R.length := by rw [HLEN.out]; exact hlt2
          have hgl : i < G.length := by rw [HGEN.out]; exact hlt2
          obtain ⟨x, hx⟩ : ∃ x, R[i]? = some x := ⟨_, List.getElem?_eq_getElem hil⟩
          obtain ⟨gb, hgb⟩ : ∃ gb, G[i]? = some gb := ⟨_, List.getElem?_eq_getElem hgl⟩
          have HWJ := Lib.hid (HBX.out.trans (HB.out.mono HBX.out.size))
          have HRX := Lib.hid (show wr.rangeAt br (ob + i * 6) (encG x) from fun i' u' hj' => cell_later HWJ.out (hrr i x hx i' u' hj'))
          have E0 := Lib.hid (show wr.cell? ⟨bg, og + i, none⟩ = some (.bool gb) from by
            have := cell_later HWJ.out (hgg i gb hgb 0 _ rfl)
            simpa using this)
          have HX := Lib.hid hx
          have HGB := Lib.hid hgb
          have HNX := Lib.hid (show ¬ (gb = true ∧ LeanD ⟨f, q, s, v, a, dl, dc, deps, text⟩ x) → ∀ (j : Nat) (y : Mg), j < i + 1 → R[j]? = some y → G[j]? = some true → ¬ LeanD ⟨f, q, s, v, a, dl, dc, deps, text⟩ y from fun hb j y hj hy hgy hl => by
            by_cases e : j = i
            · subst e; rw [HX.out] at hy; cases hy; rw [HGB.out] at hgy; cases hgy; exact hb ⟨rfl, hl⟩
            · exact HA.out j y (by omega) hy hgy hl)
          have B9 := ((Grw.refl wr).alloc (.cells (encG x).toArray 47)).below
          have X9 := Lib.hid (MgB.new wr x)
          have HJ9 := Lib.hid (HB.out.trans (B9.mono HB.out.size))
          have M9 := Lib.hid (M2.out.later HJ9.out)
          have HD9 := Lib.hid (HDM2.out.below HJ9.out)
          have E9 := Lib.hid (cell_later B9 E0.out)
          clear hrr hgg hil hgl hx hgb B9 HB HA E0
          obtain ⟨xf, xq, xs, xv, xa, xl, xc, xd, xt⟩ := x
          unfold encG at HJ9 HRX HD9 M9 E9
          simp only at HJ9 HRX HD9 X9 M9 E9
          go_upto_region 10 with (first | (refine load_mgm rfl (.tmp 52) rfl br (ob + i * 6) ⟨xf, xq, xs, xv, xa, xl, xc, xd, xt⟩ rfl HRX.out ?_) | fail)
          generalize wr.alloc (.cells #[.int .i64 xf, .int .u32 xq, .int .u64 xs, .int .i64 xv, .slice xa xl xc, .string xt] 47) = w9 at *
          generalize wr.heap.size = xb at *
          clear HRX HWJ
          have c0 : w9.cell? ⟨mb, 0, none⟩ = some (.int .i64 f) := M9.out.own.at_ 0 _ rfl
          have c1 : w9.cell? ⟨mb, 1, none⟩ = some (.int .u32 q) := M9.out.own.at_ 1 _ rfl
          have c4 : w9.cell? ⟨mb, 4, none⟩ = some (.slice a dl dc) := M9.out.own.at_ 4 _ rfl
          have y0 : w9.cell? ⟨xb, 0, none⟩ = some (.int .i64 xf) := X9.out.own.at_ 0 _ rfl
          have y1 : w9.cell? ⟨xb, 1, none⟩ = some (.int .u32 xq) := X9.out.own.at_ 1 _ rfl
          have e0 := E9.out
          have PA := fun n' => refAt dc (Lst.below HD9.out ((Grw.refl w9).drewN n').below) xf
          obtain ⟨z, hz⟩ : ∃ z, z = atL deps xf := ⟨_, rfl⟩
          simp only [← hz] at PA
          have HZ := Lib.hid hz
          clear hz E9 M9 X9 HD9
          cases gb with
          | false =>
            have HA2 := Lib.hid (HNX.out (fun hb => by cases hb.1))
            go_quiet (fail)
            have HB2 := Lib.hid (HJ9.out.trans (((Grw.refl w9).drewN nq).below.mono HJ9.out.size))
            clear HJ9 c0 c1 c4 y0 y1 e0 PA
            go_wp2
            go_roundw
            case rel => exact ⟨i + 1, by omega, by go_num, HB2.out, HA2.out⟩
            case measure => simp [intOf]; omega
          | true =>
            have HGI := Lib.hid HGB.out
            cases t1 : (xf == f) with
            | false =>
              cases t3 : decide (xq ≤ z) with
              | true =>
                have HQ := Lib.hid (HLEA.out i _ HX.out HGI.out (.inr (by rw [depAt_atL, ← HZ.out]; exact of_decide_eq_true t3)))
                go_quiet ((go_at_call 53; exact Calls.quiet_of_same ((PA _).mono fun _ _ ⟨he, hw⟩ => ⟨he, hw.symm⟩)))
                have HB2 := Lib.hid (HBX.out.trans ((HJ9.out.trans (((Grw.refl w9).drewN nq).below.mono HJ9.out.size)).mono HBX.out.size))
                go_wp2
                exact HYES.out _ HQ.out HB2.out
              | false =>
                have HA2 := Lib.hid (HNX.out (fun hb => by
                  rcases hb.2 with h | h
                  · have := h.1; simp only at this; rw [this] at t1; simp at t1
                  · rw [depAt_atL, ← HZ.out] at h; exact of_decide_eq_false t3 h))
                go_quiet ((go_at_call 53; exact Calls.quiet_of_same ((PA _).mono fun _ _ ⟨he, hw⟩ => ⟨he, hw.symm⟩)))
                have HB2 := Lib.hid (HJ9.out.trans (((Grw.refl w9).drewN nq).below.mono HJ9.out.size))
                clear HJ9 c0 c1 c4 y0 y1 e0 PA
                go_wp2
                go_roundw
                case rel => exact ⟨i + 1, by omega, by go_num, HB2.out, HA2.out⟩
                case measure => simp [intOf]; omega
            | true =>
              cases t2 : decide (xq ≤ q) with
              | true =>
                have HQ := Lib.hid (HLEA.out i _ HX.out HGI.out (.inl ⟨by simpa using t1, of_decide_eq_true t2⟩))
                go_quiet (fail)
                have HB2 := Lib.hid (HBX.out.trans ((HJ9.out.trans (((Grw.refl w9).drewN nq).below.mono HJ9.out.size)).mono HBX.out.size))
                go_wp2
                exact HYES.out _ HQ.out HB2.out
              | false =>
                cases t3 : decide (xq ≤ z) with
                | true =>
                  have HQ := Lib.hid (HLEA.out i _ HX.out HGI.out (.inr (by rw [depAt_atL, ← HZ.out]; exact of_decide_eq_true t3)))
                  go_quiet ((go_at_call 53; exact Calls.quiet_of_same ((PA _).mono fun _ _ ⟨he, hw⟩ => ⟨he, hw.symm⟩)))
                  have HB2 := Lib.hid (HBX.out.trans ((HJ9.out.trans (((Grw.refl w9).drewN nq).below.mono HJ9.out.size)).mono HBX.out.size))
                  go_wp2
                  exact HYES.out _ HQ.out HB2.out
                | false =>
                  have HA2 := Lib.hid (HNX.out (fun hb => by
                    rcases hb.2 with h | h
                    · exact of_decide_eq_false t2 h.2
                    · rw [depAt_atL, ← HZ.out] at h; exact of_decide_eq_false t3 h))
                  go_quiet ((go_at_call 53; exact Calls.quiet_of_same ((PA _).mono fun _ _ ⟨he, hw⟩ => ⟨he, hw.symm⟩)))
                  have HB2 := Lib.hid (HJ9.out.trans (((Grw.refl w9).drewN nq).below.mono HJ9.out.size))
                  clear HJ9 c0 c1 c4 y0 y1 e0 PA
                  go_wp2
                  go_roundw
                  case rel => exact ⟨i + 1, by omega, by go_num, HB2.out, HA2.out⟩
                  case measure => simp [intOf]; omega
        · have HQ := Lib.hid (HNON.out HAL.out (fun j x h1 h2 => HA.out j x (by have := (List.getElem?_eq_some_iff.1 h1).1; have := HLEN.out; omega) h1 h2))
          have HB2 := Lib.hid (HBX.out.trans (HB.out.mono HBX.out.size))
          go_wp2
          exact HNO.out _ HQ.out HB2.out
end Go.Proofs.Ytfocjcdfpnbkjaa
