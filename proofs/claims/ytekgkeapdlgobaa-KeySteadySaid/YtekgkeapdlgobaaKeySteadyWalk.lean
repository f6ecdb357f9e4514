/- The walk of 'KeySteady'. -/
import Derived.Test.YtekgkeapdlgobaaKeySortsWalk
import Derived.BigQuiet
import Derived.BigRegion
set_option linter.unusedVariables false
set_option linter.unusedSimpArgs false
namespace Go.Proofs.Ytekgkeapdlgobaa
open Go.RowKit Go.Sort

/-- How two keys stand, by their numbers. -/
def kJ (an ap bn bp : Int) : Int := kcmp ⟨an, ap⟩ ⟨bn, bp⟩
/-- How many of the first j are one with z. -/
def cntZ (z : Msg) (l : List Msg) (j : Nat) : Nat := (l.take j).countP fun u => sameB u z
theorem cntZ_next {z : Msg} {l : List Msg} {j : Nat} {u : Msg} (hu : l[j]? = some u) : cntZ z l (j + 1) = cntZ z l j + (if sameB u z then 1 else 0) := by
  obtain ⟨hl, e⟩ := List.getElem?_eq_some_iff.1 hu
  unfold cntZ
  rw [List.take_succ_eq_append_getElem hl, e, List.countP_append, List.countP_cons, List.countP_nil, Nat.zero_add]
theorem cntZ_full {z : Msg} {l M : List Msg} {n : Nat} (h : Fil Msg.key l M) (hl : l.length = n) : cntZ z l n = cntZ z M n := by
  unfold cntZ
  rw [List.take_of_length_le (by omega), List.take_of_length_le (by rw [h.length]; omega)]
  exact (Fil.perm l M h).countP_eq _
theorem same_at (x y : Msg) (W : World) (hx : DepsIn W x) (hy : DepsIn W y) (hdl : x.dl ≤ 1048576) (n : Nat) (os : Array Obj) :
    Calls Try.prog 25 #[.agg (encM x).toArray, .agg (encM y).toArray] (grow (W.drewN n) os) fun e w' => e = .returned (.bool (sameB x y)) ∧ Grw (grow (W.drewN n) os) w' :=
  same_any x y _ (hx.below (Grw.below ⟨n, _, rfl⟩)) (hy.below (Grw.below ⟨n, _, rfl⟩)) hdl
theorem srt_step {M : List Msg} (h : Srt Msg.key M) {p k : Nat} {y x : Msg} (hy : M[p]? = some y) (hx : M[k]? = some x) (hpk : p < k) : ¬ 0 < kJ y.s y.f x.s x.f := by
  obtain ⟨hpl, e1⟩ := List.getElem?_eq_some_iff.1 hy
  obtain ⟨hkl, e2⟩ := List.getElem?_eq_some_iff.1 hx
  have := List.pairwise_iff_getElem.1 h p k hpl hkl hpk
  rw [e1, e2] at this
  intro h0
  have h1 := (kcmp_pos y.key x.key).1 h0
  rw [this] at h1; cases h1

set_option maxHeartbeats 16000000 in
theorem walk_KeySteady (w : World) (ao : Option Addr) (len cap : Nat) (l : List Msg) (hin : Lst encM 6 w ao len l ∧ (ao = none → cap = 0) ∧ ∀ m ∈ l, DepsIn w m) :
    Calls Try.prog 7 #[.slice ao len cap] w
      fun e w' => e = .returned (.bool true) ∧ Below w.heap.size w w' := by
  have HL := Lib.hid hin.1
  have HC := Lib.hid hin.2.1
  have HD := Lib.hid hin.2.2
  have mixed : Try.prog.follows .mixedOrders = true := by kernel_rfl
  clear hin
  by_cases h60 : (60 : Int) < len
  · go_enter Try.func7, Try.ntmps7
    go_wp2_with fail
    refine (awake3_any _).mono ?_
    rintro e w1 ⟨rfl, hB⟩
    have HB1 := Lib.hid hB
    clear hB
    go_wp2_with fail
    refine (few_any ao len cap l w1 (HL.out.below HB1.out)).mono ?_
    rintro e w2 ⟨he, hB⟩
    have HB2 := Lib.hid (HB1.out.trans (hB.mono HB1.out.size))
    clear hB HB1
    rcases he with rfl | ⟨rfl, _, _⟩
    · go_wp2_with fail
      go_ret
      exact ⟨rfl, HB2.out⟩
    · go_wp2_with fail
      go_ret
      exact ⟨rfl, HB2.out⟩
  have hlen : len ≤ 60 := by omega
  have HNB := Lib.hid (show len ≤ 1048576 by omega)
  go_enter Try.func7, Try.ntmps7
  go_wp2_with fail
  refine (awake3_any _).mono ?_
  rintro e w1 ⟨rfl, hB⟩
  have HB1 := Lib.hid hB
  clear hB
  go_wp2_with fail
  refine (few_any ao len cap l w1 (HL.out.below HB1.out)).mono ?_
  rintro e w2 ⟨he, hB⟩
  have HB2 := Lib.hid (HB1.out.trans (hB.mono HB1.out.size))
  clear hB HB1
  rcases he with rfl | ⟨rfl, _, hdl⟩
  · go_wp2_with fail
    go_ret
    exact ⟨rfl, HB2.out⟩
  have HDL := Lib.hid hdl
  clear hdl
  go_wp2_with fail
  refine (sortAll_any len ao cap l w2 (HL.out.below HB2.out) HC.out HNB.out).mono ?_
  rintro e w3 ⟨so, sc, M, rfl, hsc, hS, hM, hB⟩
  have HB3 := Lib.hid (HB2.out.trans (hB.mono HB2.out.size))
  have HS := Lib.hid hS
  have HM := Lib.hid hM
  have HSC := Lib.hid hsc
  clear hS hM hB HB2 hsc
  go_wp2_with fail
  refine (sortAll_any len so sc M w3 HM.out HSC.out HNB.out).mono ?_
  rintro e w4 ⟨ro, rc, M', rfl, _, hS, hM, hB⟩
  have hMM : M' = M := IsSrt.one hS (IsSrt.same HS.out.srt)
  rw [hMM] at hM
  have HB4 := Lib.hid (HB3.out.trans (hB.mono HB3.out.size))
  have HM4 := Lib.hid (HM.out.below hB)
  have HR := Lib.hid hM
  have HMEM := Lib.hid HS.out.fil
  clear hS hM hB HB3 HM hMM
  go_wp2_with fail
  refine (all_same ro so len rc sc M w4 HR.out HM4.out (fun m hm => (HD.out m ((HMEM.out.mem m).1 hm)).below HB4.out) (fun m hm => Nat.le_trans (HDL.out m ((HMEM.out.mem m).1 hm)) (by decide)) HNB.out).mono ?_
  rintro e w5 ⟨rfl, hB⟩
  have HB5 := Lib.hid (HB4.out.trans (hB.mono HB4.out.size))
  have LS := Lib.hid (HM4.out.below hB)
  have LL := Lib.hid (HL.out.below HB5.out)
  have DL := Lib.hid (fun m (hm : m ∈ l) => And.intro ((HD.out m hm).below HB5.out) (Nat.le_trans (HDL.out m hm) (show 20000 ≤ 1048576 by decide)))
  have DM := Lib.hid (fun m (hm : m ∈ M) => DL.out m ((HMEM.out.mem m).1 hm))
  have HSS := Lib.hid HS.out.srt
  have HLL := Lib.hid LL.out.size
  clear hB HB4 HM4 HR HL HD HDL HC HSC HS
  go_wp2_with fail
  go_loopw [4] (fun si wr => ∃ k : Nat, k ≤ len ∧ si = .int .i64 k ∧ Below w5.heap.size w5 wr) (fun si _ => len - (intOf si).toNat)
  case atStart => exact ⟨0, Nat.zero_le _, rfl, Below.refl _ _⟩
  case round =>
    obtain ⟨k, hk, rfl, hB⟩ := hrel
    by_cases hlt : k < len
    · obtain ⟨b1, o1, u0, rfl, _, _, _⟩ := LL.out.at_ (show 0 < len by omega)
      obtain ⟨b2, o2, x, rfl, hx, hb2, hz⟩ := LS.out.at_ hlt
      have HX := Lib.hid hx
      have HZ := Lib.hid hz
      have HBB := Lib.hid hB
      have HBL := Lib.hid hb2
      clear hx hz hB hb2
      by_cases hk0 : 0 < k
      · obtain ⟨p, hp⟩ : ∃ p, k = p + 1 := ⟨k - 1, by omega⟩
        obtain ⟨b3, o3, y, e, hy, hb3, hc⟩ := LS.out.at_ (show p < len by omega)
        injection e with e
        injection e with e1 e2
        subst e1 e2
        have hle := srt_step HSS.out hy HX.out (show p < k by omega)
        have hwp : IntKind.i64.wrap (p : Int) = (p : Int) := by rw [IntKind.wrap_i64]; omega
        have hwp2 : (k : Int) - 1 = (p : Int) := by omega
        have hp0 : (p : Int) < len := by omega
        have hg1 : (0 : Int) < (k : Int) := by omega
        have hbw := HBB.out.size
        have cx : ∀ c v, (encM x)[c]? = some v → ∀ n os, (grow (wr.drewN n) os).cell? ⟨b2, o2 + k * 6 + c, none⟩ = some v := fun c v hv => cell_grown (by have := HBL.out; show b2 < wr.heap.size; omega) (cell_later HBB.out (HZ.out c v hv))
        have cy : ∀ c v, (encM y)[c]? = some v → ∀ n os, (grow (wr.drewN n) os).cell? ⟨b2, o2 + p * 6 + c, none⟩ = some v := fun c v hv => cell_grown (by have := HBL.out; show b2 < wr.heap.size; omega) (cell_later HBB.out (hc c v hv))
        have a0 := cx 0 _ rfl
        have a1 := cx 1 _ rfl
        have a2 := cx 2 _ rfl
        have a3 := cx 3 _ rfl
        have a4 := cx 4 _ rfl
        have a5 := cx 5 _ rfl
        have y0 := cy 0 _ rfl
        have y1 := cy 1 _ rfl
        have y2 := cy 2 _ rfl
        have y3 := cy 3 _ rfl
        have y4 := cy 4 _ rfl
        have y5 := cy 5 _ rfl
        simp only [Nat.add_zero] at a0 y0
        have hof : ∀ (f q s v : Int) (a : Option Addr) (dl dc : Nat) (text : ByteArray) W, Calls Try.prog 24 #[.agg #[.int .i64 f, .int .u32 q, .int .u64 s, .int .i64 v, .slice a dl dc, .string text]] W fun e w' => e = .returned (.agg #[.int .u64 s, .int .i64 f]) ∧ Grw W w' :=
          fun f q s v a dl dc text W => of_any ⟨f, q, s, v, a, dl, dc, [], text⟩ W
        have hcm : ∀ (an ap bn bp : Int) W, Calls Try.prog 10 #[.agg #[.int .u64 an, .int .i64 ap], .agg #[.int .u64 bn, .int .i64 bp]] W fun e w' => e = .returned (.int .i64 (kJ an ap bn bp)) ∧ Grw W w' := fun an ap bn bp => compare_any ⟨an, ap⟩ ⟨bn, bp⟩
        clear cx cy hy hc hb3 hp
        generalize x.f = xf at a0 hle
        generalize x.q = xq at a1
        generalize x.s = xs at a2 hle
        generalize x.v = xv at a3
        generalize x.a = xa at a4
        generalize x.dl = xdl at a4
        generalize x.dc = xdc at a4
        generalize x.text = xt at a5
        generalize y.f = yf at y0 hle
        generalize y.q = yq at y1
        generalize y.s = ys at y2 hle
        generalize y.v = yv at y3
        generalize y.a = ya at y4
        generalize y.dl = ydl at y4
        generalize y.dc = ydc at y4
        generalize y.text = yt at y5
        have hle2 : decide (kJ ys yf xs xf > 0) = false := decide_eq_false hle
        have hle3 : decide (0 < kJ ys yf xs xf) = false := decide_eq_false hle
        go_wp2_with fail
        go_quiet_grown (first
          | (go_at_call 24; exact Calls.grown_of (hof _ _ _ _ _ _ _ _ _))
          | (go_at_call 10; exact Calls.grown_of (hcm _ _ _ _ _)))
        have HB3 := HBB.out.trans ((Grw.below (w := wr) (w' := grow (wr.drewN nq) osq) ⟨nq, osq, rfl⟩).mono HBB.out.size)
        generalize grow (wr.drewN nq) osq = V at HB3 ⊢
        have HBV := Lib.hid HB3
        clear HB3 a0 a1 a2 a3 a4 a5 y0 y1 y2 y3 y4 y5 hof hcm hle hle2 hle3 hwp hwp2 hp0 hg1 hbw hk0
        go_wp2_with fail
        go_loopw [5, 6, 7] (fun sx sy sk w2 => ∃ j cx cy : Nat, j ≤ len ∧ cx ≤ j ∧ cy ≤ j ∧ sk = .int .i64 j ∧ sx = .int .i64 cx ∧ sy = .int .i64 cy ∧ Hid (cx = cntZ x l j ∧ cy = cntZ x M j) ∧ Below w5.heap.size w5 w2) (fun _ _ sk _ => len - (intOf sk).toNat)
        case atStart => exact ⟨0, 0, 0, Nat.zero_le _, Nat.zero_le _, Nat.zero_le _, rfl, rfl, rfl, Lib.hid ⟨rfl, rfl⟩, HBV.out⟩
        case round =>
          obtain ⟨j, cx, cy, hj, hcx, hcy, rfl, rfl, rfl, HCT, hB⟩ := hrel
          have wrB := Lib.hid hB
          clear hB
          by_cases hlj : j < len
          · obtain ⟨b3, o3, u, e, hu, hb3, hc⟩ := LL.out.at_ hlj
            injection e with e
            injection e with e1 e2
            subst e1 e2
            have hsm := same_at u x wr ((DL.out u (List.mem_of_getElem? hu)).1.below wrB.out) ((DM.out x (List.mem_of_getElem? HX.out)).1.below wrB.out) (DL.out u (List.mem_of_getElem? hu)).2
            have HN := Lib.hid (cntZ_next (z := x) hu)
            have hbw := wrB.out.size
            have hbl := HBL.out
            have cu : ∀ c v, (encM u)[c]? = some v → ∀ n os, (grow (wr.drewN n) os).cell? ⟨b1, o1 + j * 6 + c, none⟩ = some v := fun c v hv => cell_grown (by show b1 < wr.heap.size; omega) (cell_later wrB.out (hc c v hv))
            have cz : ∀ c v, (encM x)[c]? = some v → ∀ n os, (grow (wr.drewN n) os).cell? ⟨b2, o2 + k * 6 + c, none⟩ = some v := fun c v hv => cell_grown (by show b2 < wr.heap.size; omega) (cell_later wrB.out (HZ.out c v hv))
            have a0 := cu 0 _ rfl
            have a1 := cu 1 _ rfl
            have a2 := cu 2 _ rfl
            have a3 := cu 3 _ rfl
            have a4 := cu 4 _ rfl
            have a5 := cu 5 _ rfl
            have z0 := cz 0 _ rfl
            have z1 := cz 1 _ rfl
            have z2 := cz 2 _ rfl
            have z3 := cz 3 _ rfl
            have z4 := cz 4 _ rfl
            have z5 := cz 5 _ rfl
            simp only [Nat.add_zero] at a0 z0
            obtain ⟨bu, hbu⟩ : ∃ b, b = sameB u x := ⟨_, rfl⟩
            rw [← hbu] at HN hsm
            generalize hxe : x = x' at hsm z0 z1 z2 z3 z4 z5
            generalize u = u' at hsm a0 a1 a2 a3 a4 a5
            obtain ⟨f, q, s, v, a, dl, dc, deps, text⟩ := x'
            obtain ⟨f', q', s', v', a', dl', dc', deps', text'⟩ := u'
            have HXEwr := Lib.hid hxe
            clear hxe
            simp only [encM] at hsm
            simp only at a0 a1 a2 a3 a4 a5 z0 z1 z2 z3 z4 z5
            clear cu cz hu hc hbu hb3 hbl hbw
            have HN1 := HN
            clear HN
            cases bu with
            | true =>
              go_wp2_with fail
              go_quiet_grown ((go_at_call 25; exact Calls.grown_of (hsm _ _)))
              have hB3 := wrB.out.trans ((Grw.below (w := wr) (w' := grow (wr.drewN nq) osq) ⟨nq, osq, rfl⟩).mono wrB.out.size)
              generalize grow (wr.drewN nq) osq = V2 at hB3 ⊢
              have V2B := Lib.hid hB3
              clear hB3 hsm a0 a1 a2 a3 a4 a5 z0 z1 z2 z3 z4 z5
              obtain ⟨b3, o3, u, e, hu, hb3, hc⟩ := LS.out.at_ hlj
              injection e with e
              injection e with e1 e2
              subst e1 e2
              have hsm := same_at u x V2 ((DM.out u (List.mem_of_getElem? hu)).1.below V2B.out) ((DM.out x (List.mem_of_getElem? HX.out)).1.below V2B.out) (DM.out u (List.mem_of_getElem? hu)).2
              have HN := Lib.hid (cntZ_next (z := x) hu)
              have hbw := V2B.out.size
              have hbl := HBL.out
              have cu : ∀ c v, (encM u)[c]? = some v → ∀ n os, (grow (V2.drewN n) os).cell? ⟨b2, o2 + j * 6 + c, none⟩ = some v := fun c v hv => cell_grown (by show b2 < V2.heap.size; omega) (cell_later V2B.out (hc c v hv))
              have cz : ∀ c v, (encM x)[c]? = some v → ∀ n os, (grow (V2.drewN n) os).cell? ⟨b2, o2 + k * 6 + c, none⟩ = some v := fun c v hv => cell_grown (by show b2 < V2.heap.size; omega) (cell_later V2B.out (HZ.out c v hv))
              have a0 := cu 0 _ rfl
              have a1 := cu 1 _ rfl
              have a2 := cu 2 _ rfl
              have a3 := cu 3 _ rfl
              have a4 := cu 4 _ rfl
              have a5 := cu 5 _ rfl
              have z0 := cz 0 _ rfl
              have z1 := cz 1 _ rfl
              have z2 := cz 2 _ rfl
              have z3 := cz 3 _ rfl
              have z4 := cz 4 _ rfl
              have z5 := cz 5 _ rfl
              simp only [Nat.add_zero] at a0 z0
              obtain ⟨bu, hbu⟩ : ∃ b, b = sameB u x := ⟨_, rfl⟩
              rw [← hbu] at HN hsm
              generalize hxe : x = x' at hsm z0 z1 z2 z3 z4 z5
              generalize u = u' at hsm a0 a1 a2 a3 a4 a5
              obtain ⟨g, q2, s2, v2, a_, dl2, dc2, deps2, text2⟩ := x'
              obtain ⟨g', q3, s3, v3, a3', dl3, dc3, deps3, text3⟩ := u'
              have HXEV2 := Lib.hid hxe
              clear hxe
              simp only [encM] at hsm
              simp only at a0 a1 a2 a3 a4 a5 z0 z1 z2 z3 z4 z5
              clear cu cz hu hc hbu hb3 hbl hbw
              cases bu with
              | true =>
                go_wp2_with fail
                go_quiet_grown ((go_at_call 25; exact Calls.grown_of (hsm _ _)))
                have hB3 := V2B.out.trans ((Grw.below (w := V2) (w' := grow (V2.drewN nq) osq) ⟨nq, osq, rfl⟩).mono V2B.out.size)
                generalize grow (V2.drewN nq) osq = V3 at hB3 ⊢
                have WB2 := Lib.hid hB3
                clear hB3 hsm a0 a1 a2 a3 a4 a5 z0 z1 z2 z3 z4 z5
                go_wp2_with fail
                go_roundw
                case rel => exact ⟨j + 1, cx + 1, cy + 1, by omega, by omega, by omega, by go_num, by go_num, by go_num, Lib.hid ⟨by first | rw [HN1.out, HCT.out.1]; rfl | rw [← HXEwr.out, HN1.out, HCT.out.1]; rfl, by first | rw [HN.out, HCT.out.2]; rfl | rw [← HXEwr.out, HN.out, HCT.out.2]; rfl⟩, WB2.out⟩
                case measure => simp [intOf]; omega
              | false =>
                go_wp2_with fail
                go_quiet_grown ((go_at_call 25; exact Calls.grown_of (hsm _ _)))
                have hB3 := V2B.out.trans ((Grw.below (w := V2) (w' := grow (V2.drewN nq) osq) ⟨nq, osq, rfl⟩).mono V2B.out.size)
                generalize grow (V2.drewN nq) osq = V3 at hB3 ⊢
                have WB2 := Lib.hid hB3
                clear hB3 hsm a0 a1 a2 a3 a4 a5 z0 z1 z2 z3 z4 z5
                go_wp2_with fail
                go_roundw
                case rel => exact ⟨j + 1, cx + 1, cy, by omega, by omega, by omega, by go_num, by go_num, by go_num, Lib.hid ⟨by first | rw [HN1.out, HCT.out.1]; rfl | rw [← HXEwr.out, HN1.out, HCT.out.1]; rfl, by first | rw [HN.out, HCT.out.2]; rfl | rw [← HXEwr.out, HN.out, HCT.out.2]; rfl⟩, WB2.out⟩
                case measure => simp [intOf]; omega
            | false =>
              go_wp2_with fail
              go_quiet_grown ((go_at_call 25; exact Calls.grown_of (hsm _ _)))
              have hB3 := wrB.out.trans ((Grw.below (w := wr) (w' := grow (wr.drewN nq) osq) ⟨nq, osq, rfl⟩).mono wrB.out.size)
              generalize grow (wr.drewN nq) osq = V2 at hB3 ⊢
              have V2B := Lib.hid hB3
              clear hB3 hsm a0 a1 a2 a3 a4 a5 z0 z1 z2 z3 z4 z5
              obtain ⟨b3, o3, u, e, hu, hb3, hc⟩ := LS.out.at_ hlj
              injection e with e
              injection e with e1 e2
              subst e1 e2
              have hsm := same_at u x V2 ((DM.out u (List.mem_of_getElem? hu)).1.below V2B.out) ((DM.out x (List.mem_of_getElem? HX.out)).1.below V2B.out) (DM.out u (List.mem_of_getElem? hu)).2
              have HN := Lib.hid (cntZ_next (z := x) hu)
              have hbw := V2B.out.size
              have hbl := HBL.out
              have cu : ∀ c v, (encM u)[c]? = some v → ∀ n os, (grow (V2.drewN n) os).cell? ⟨b2, o2 + j * 6 + c, none⟩ = some v := fun c v hv => cell_grown (by show b2 < V2.heap.size; omega) (cell_later V2B.out (hc c v hv))
              have cz : ∀ c v, (encM x)[c]? = some v → ∀ n os, (grow (V2.drewN n) os).cell? ⟨b2, o2 + k * 6 + c, none⟩ = some v := fun c v hv => cell_grown (by show b2 < V2.heap.size; omega) (cell_later V2B.out (HZ.out c v hv))
              have a0 := cu 0 _ rfl
              have a1 := cu 1 _ rfl
              have a2 := cu 2 _ rfl
              have a3 := cu 3 _ rfl
              have a4 := cu 4 _ rfl
              have a5 := cu 5 _ rfl
              have z0 := cz 0 _ rfl
              have z1 := cz 1 _ rfl
              have z2 := cz 2 _ rfl
              have z3 := cz 3 _ rfl
              have z4 := cz 4 _ rfl
              have z5 := cz 5 _ rfl
              simp only [Nat.add_zero] at a0 z0
              obtain ⟨bu, hbu⟩ : ∃ b, b = sameB u x := ⟨_, rfl⟩
              rw [← hbu] at HN hsm
              generalize hxe : x = x' at hsm z0 z1 z2 z3 z4 z5
              generalize u = u' at hsm a0 a1 a2 a3 a4 a5
              obtain ⟨g, q2, s2, v2, a_, dl2, dc2, deps2, text2⟩ := x'
              obtain ⟨g', q3, s3, v3, a3', dl3, dc3, deps3, text3⟩ := u'
              have HXEV2 := Lib.hid hxe
              clear hxe
              simp only [encM] at hsm
              simp only at a0 a1 a2 a3 a4 a5 z0 z1 z2 z3 z4 z5
              clear cu cz hu hc hbu hb3 hbl hbw
              cases bu with
              | true =>
                go_wp2_with fail
                go_quiet_grown ((go_at_call 25; exact Calls.grown_of (hsm _ _)))
                have hB3 := V2B.out.trans ((Grw.below (w := V2) (w' := grow (V2.drewN nq) osq) ⟨nq, osq, rfl⟩).mono V2B.out.size)
                generalize grow (V2.drewN nq) osq = V3 at hB3 ⊢
                have WB2 := Lib.hid hB3
                clear hB3 hsm a0 a1 a2 a3 a4 a5 z0 z1 z2 z3 z4 z5
                go_wp2_with fail
                go_roundw
                case rel => exact ⟨j + 1, cx, cy + 1, by omega, by omega, by omega, by go_num, by go_num, by go_num, Lib.hid ⟨by first | rw [HN1.out, HCT.out.1]; rfl | rw [← HXEwr.out, HN1.out, HCT.out.1]; rfl, by first | rw [HN.out, HCT.out.2]; rfl | rw [← HXEwr.out, HN.out, HCT.out.2]; rfl⟩, WB2.out⟩
                case measure => simp [intOf]; omega
              | false =>
                go_wp2_with fail
                go_quiet_grown ((go_at_call 25; exact Calls.grown_of (hsm _ _)))
                have hB3 := V2B.out.trans ((Grw.below (w := V2) (w' := grow (V2.drewN nq) osq) ⟨nq, osq, rfl⟩).mono V2B.out.size)
                generalize grow (V2.drewN nq) osq = V3 at hB3 ⊢
                have WB2 := Lib.hid hB3
                clear hB3 hsm a0 a1 a2 a3 a4 a5 z0 z1 z2 z3 z4 z5
                go_wp2_with fail
                go_roundw
                case rel => exact ⟨j + 1, cx, cy, by omega, by omega, by omega, by go_num, by go_num, by go_num, Lib.hid ⟨by first | rw [HN1.out, HCT.out.1]; rfl | rw [← HXEwr.out, HN1.out, HCT.out.1]; rfl, by first | rw [HN.out, HCT.out.2]; rfl | rw [← HXEwr.out, HN.out, HCT.out.2]; rfl⟩, WB2.out⟩
                case measure => simp [intOf]; omega
          · have hjl : j = len := by omega
            have hcc : cx = cy := by
              rw [HCT.out.1, HCT.out.2, hjl]
              exact cntZ_full HMEM.out HLL.out
            subst hcc
            clear hjl
            go_wp2_with fail
            go_roundw
            case rel => exact ⟨k + 1, by omega, by go_num, wrB.out⟩
            case measure => simp [intOf]; omega
      · have hg1 : ¬ (0 : Int) < (k : Int) := by omega
        have hg2 : decide ((k : Int) > 0) = false := decide_eq_false (by omega)
        have hg3 : decide (0 < k) = false := decide_eq_false hk0
        have HB3 := HBB.out.trans ((Grw.refl wr).drew.below.mono HBB.out.size)
        go_wp2_with fail
        go_big_region_o
        generalize wr.drew = V at HB3 ⊢
        have HBV := Lib.hid HB3
        clear HB3 hg1 hg2 hg3 hk0
        go_wp2_with fail
        go_loopw [5, 6, 7] (fun sx sy sk w2 => ∃ j cx cy : Nat, j ≤ len ∧ cx ≤ j ∧ cy ≤ j ∧ sk = .int .i64 j ∧ sx = .int .i64 cx ∧ sy = .int .i64 cy ∧ Hid (cx = cntZ x l j ∧ cy = cntZ x M j) ∧ Below w5.heap.size w5 w2) (fun _ _ sk _ => len - (intOf sk).toNat)
        case atStart => exact ⟨0, 0, 0, Nat.zero_le _, Nat.zero_le _, Nat.zero_le _, rfl, rfl, rfl, Lib.hid ⟨rfl, rfl⟩, HBV.out⟩
        case round =>
          obtain ⟨j, cx, cy, hj, hcx, hcy, rfl, rfl, rfl, HCT, hB⟩ := hrel
          have wrB := Lib.hid hB
          clear hB
          by_cases hlj : j < len
          · obtain ⟨b3, o3, u, e, hu, hb3, hc⟩ := LL.out.at_ hlj
            injection e with e
            injection e with e1 e2
            subst e1 e2
            have hsm := same_at u x wr ((DL.out u (List.mem_of_getElem? hu)).1.below wrB.out) ((DM.out x (List.mem_of_getElem? HX.out)).1.below wrB.out) (DL.out u (List.mem_of_getElem? hu)).2
            have HN := Lib.hid (cntZ_next (z := x) hu)
            have hbw := wrB.out.size
            have hbl := HBL.out
            have cu : ∀ c v, (encM u)[c]? = some v → ∀ n os, (grow (wr.drewN n) os).cell? ⟨b1, o1 + j * 6 + c, none⟩ = some v := fun c v hv => cell_grown (by show b1 < wr.heap.size; omega) (cell_later wrB.out (hc c v hv))
            have cz : ∀ c v, (encM x)[c]? = some v → ∀ n os, (grow (wr.drewN n) os).cell? ⟨b2, o2 + k * 6 + c, none⟩ = some v := fun c v hv => cell_grown (by show b2 < wr.heap.size; omega) (cell_later wrB.out (HZ.out c v hv))
            have a0 := cu 0 _ rfl
            have a1 := cu 1 _ rfl
            have a2 := cu 2 _ rfl
            have a3 := cu 3 _ rfl
            have a4 := cu 4 _ rfl
            have a5 := cu 5 _ rfl
            have z0 := cz 0 _ rfl
            have z1 := cz 1 _ rfl
            have z2 := cz 2 _ rfl
            have z3 := cz 3 _ rfl
            have z4 := cz 4 _ rfl
            have z5 := cz 5 _ rfl
            simp only [Nat.add_zero] at a0 z0
            obtain ⟨bu, hbu⟩ : ∃ b, b = sameB u x := ⟨_, rfl⟩
            rw [← hbu] at HN hsm
            generalize hxe : x = x' at hsm z0 z1 z2 z3 z4 z5
            generalize u = u' at hsm a0 a1 a2 a3 a4 a5
            obtain ⟨f, q, s, v, a, dl, dc, deps, text⟩ := x'
            obtain ⟨f', q', s', v', a', dl', dc', deps', text'⟩ := u'
            have HXEwr := Lib.hid hxe
            clear hxe
            simp only [encM] at hsm
            simp only at a0 a1 a2 a3 a4 a5 z0 z1 z2 z3 z4 z5
            clear cu cz hu hc hbu hb3 hbl hbw
            have HN1 := HN
            clear HN
            cases bu with
            | true =>
              go_wp2_with fail
              go_quiet_grown ((go_at_call 25; exact Calls.grown_of (hsm _ _)))
              have hB3 := wrB.out.trans ((Grw.below (w := wr) (w' := grow (wr.drewN nq) osq) ⟨nq, osq, rfl⟩).mono wrB.out.size)
              generalize grow (wr.drewN nq) osq = V2 at hB3 ⊢
              have V2B := Lib.hid hB3
              clear hB3 hsm a0 a1 a2 a3 a4 a5 z0 z1 z2 z3 z4 z5
              obtain ⟨b3, o3, u, e, hu, hb3, hc⟩ := LS.out.at_ hlj
              injection e with e
              injection e with e1 e2
              subst e1 e2
              have hsm := same_at u x V2 ((DM.out u (List.mem_of_getElem? hu)).1.below V2B.out) ((DM.out x (List.mem_of_getElem? HX.out)).1.below V2B.out) (DM.out u (List.mem_of_getElem? hu)).2
              have HN := Lib.hid (cntZ_next (z := x) hu)
              have hbw := V2B.out.size
              have hbl := HBL.out
              have cu : ∀ c v, (encM u)[c]? = some v → ∀ n os, (grow (V2.drewN n) os).cell? ⟨b2, o2 + j * 6 + c, none⟩ = some v := fun c v hv => cell_grown (by show b2 < V2.heap.size; omega) (cell_later V2B.out (hc c v hv))
              have cz : ∀ c v, (encM x)[c]? = some v → ∀ n os, (grow (V2.drewN n) os).cell? ⟨b2, o2 + k * 6 + c, none⟩ = some v := fun c v hv => cell_grown (by show b2 < V2.heap.size; omega) (cell_later V2B.out (HZ.out c v hv))
              have a0 := cu 0 _ rfl
              have a1 := cu 1 _ rfl
              have a2 := cu 2 _ rfl
              have a3 := cu 3 _ rfl
              have a4 := cu 4 _ rfl
              have a5 := cu 5 _ rfl
              have z0 := cz 0 _ rfl
              have z1 := cz 1 _ rfl
              have z2 := cz 2 _ rfl
              have z3 := cz 3 _ rfl
              have z4 := cz 4 _ rfl
              have z5 := cz 5 _ rfl
              simp only [Nat.add_zero] at a0 z0
              obtain ⟨bu, hbu⟩ : ∃ b, b = sameB u x := ⟨_, rfl⟩
              rw [← hbu] at HN hsm
              generalize hxe : x = x' at hsm z0 z1 z2 z3 z4 z5
              generalize u = u' at hsm a0 a1 a2 a3 a4 a5
              obtain ⟨g, q2, s2, v2, a_, dl2, dc2, deps2, text2⟩ := x'
              obtain ⟨g', q3, s3, v3, a3', dl3, dc3, deps3, text3⟩ := u'
              have HXEV2 := Lib.hid hxe
              clear hxe
              simp only [encM] at hsm
              simp only at a0 a1 a2 a3 a4 a5 z0 z1 z2 z3 z4 z5
              clear cu cz hu hc hbu hb3 hbl hbw
              cases bu with
              | true =>
                go_wp2_with fail
                go_quiet_grown ((go_at_call 25; exact Calls.grown_of (hsm _ _)))
                have hB3 := V2B.out.trans ((Grw.below (w := V2) (w' := grow (V2.drewN nq) osq) ⟨nq, osq, rfl⟩).mono V2B.out.size)
                generalize grow (V2.drewN nq) osq = V3 at hB3 ⊢
                have WB2 := Lib.hid hB3
                clear hB3 hsm a0 a1 a2 a3 a4 a5 z0 z1 z2 z3 z4 z5
                go_wp2_with fail
                go_roundw
                case rel => exact ⟨j + 1, cx + 1, cy + 1, by omega, by omega, by omega, by go_num, by go_num, by go_num, Lib.hid ⟨by first | rw [HN1.out, HCT.out.1]; rfl | rw [← HXEwr.out, HN1.out, HCT.out.1]; rfl, by first | rw [HN.out, HCT.out.2]; rfl | rw [← HXEwr.out, HN.out, HCT.out.2]; rfl⟩, WB2.out⟩
                case measure => simp [intOf]; omega
              | false =>
                go_wp2_with fail
                go_quiet_grown ((go_at_call 25; exact Calls.grown_of (hsm _ _)))
                have hB3 := V2B.out.trans ((Grw.below (w := V2) (w' := grow (V2.drewN nq) osq) ⟨nq, osq, rfl⟩).mono V2B.out.size)
                generalize grow (V2.drewN nq) osq = V3 at hB3 ⊢
                have WB2 := Lib.hid hB3
                clear hB3 hsm a0 a1 a2 a3 a4 a5 z0 z1 z2 z3 z4 z5
                go_wp2_with fail
                go_roundw
                case rel => exact ⟨j + 1, cx + 1, cy, by omega, by omega, by omega, by go_num, by go_num, by go_num, Lib.hid ⟨by first | rw [HN1.out, HCT.out.1]; rfl | rw [← HXEwr.out, HN1.out, HCT.out.1]; rfl, by first | rw [HN.out, HCT.out.2]; rfl | rw [← HXEwr.out, HN.out, HCT.out.2]; rfl⟩, WB2.out⟩
                case measure => simp [intOf]; omega
            | false =>
              go_wp2_with fail
              go_quiet_grown ((go_at_call 25; exact Calls.grown_of (hsm _ _)))
              have hB3 := wrB.out.trans ((Grw.below (w := wr) (w' := grow (wr.drewN nq) osq) ⟨nq, osq, rfl⟩).mono wrB.out.size)
              generalize grow (wr.drewN nq) osq = V2 at hB3 ⊢
              have V2B := Lib.hid hB3
              clear hB3 hsm a0 a1 a2 a3 a4 a5 z0 z1 z2 z3 z4 z5
              obtain ⟨b3, o3, u, e, hu, hb3, hc⟩ := LS.out.at_ hlj
              injection e with e
              injection e with e1 e2
              subst e1 e2
              have hsm := same_at u x V2 ((DM.out u (List.mem_of_getElem? hu)).1.below V2B.out) ((DM.out x (List.mem_of_getElem? HX.out)).1.below V2B.out) (DM.out u (List.mem_of_getElem? hu)).2
              have HN := Lib.hid (cntZ_next (z := x) hu)
              have hbw := V2B.out.size
              have hbl := HBL.out
              have cu : ∀ c v, (encM u)[c]? = some v → ∀ n os, (grow (V2.drewN n) os).cell? ⟨b2, o2 + j * 6 + c, none⟩ = some v := fun c v hv => cell_grown (by show b2 < V2.heap.size; omega) (cell_later V2B.out (hc c v hv))
              have cz : ∀ c v, (encM x)[c]? = some v → ∀ n os, (grow (V2.drewN n) os).cell? ⟨b2, o2 + k * 6 + c, none⟩ = some v := fun c v hv => cell_grown (by show b2 < V2.heap.size; omega) (cell_later V2B.out (HZ.out c v hv))
              have a0 := cu 0 _ rfl
              have a1 := cu 1 _ rfl
              have a2 := cu 2 _ rfl
              have a3 := cu 3 _ rfl
              have a4 := cu 4 _ rfl
              have a5 := cu 5 _ rfl
              have z0 := cz 0 _ rfl
              have z1 := cz 1 _ rfl
              have z2 := cz 2 _ rfl
              have z3 := cz 3 _ rfl
              have z4 := cz 4 _ rfl
              have z5 := cz 5 _ rfl
              simp only [Nat.add_zero] at a0 z0
              obtain ⟨bu, hbu⟩ : ∃ b, b = sameB u x := ⟨_, rfl⟩
              rw [← hbu] at HN hsm
              generalize hxe : x = x' at hsm z0 z1 z2 z3 z4 z5
              generalize u = u' at hsm a0 a1 a2 a3 a4 a5
              obtain ⟨g, q2, s2, v2, a_, dl2, dc2, deps2, text2⟩ := x'
              obtain ⟨g', q3, s3, v3, a3', dl3, dc3, deps3, text3⟩ := u'
              have HXEV2 := Lib.hid hxe
              clear hxe
              simp only [encM] at hsm
              simp only at a0 a1 a2 a3 a4 a5 z0 z1 z2 z3 z4 z5
              clear cu cz hu hc hbu hb3 hbl hbw
              cases bu with
              | true =>
                go_wp2_with fail
                go_quiet_grown ((go_at_call 25; exact Calls.grown_of (hsm _ _)))
                have hB3 := V2B.out.trans ((Grw.below (w := V2) (w' := grow (V2.drewN nq) osq) ⟨nq, osq, rfl⟩).mono V2B.out.size)
                generalize grow (V2.drewN nq) osq = V3 at hB3 ⊢
                have WB2 := Lib.hid hB3
                clear hB3 hsm a0 a1 a2 a3 a4 a5 z0 z1 z2 z3 z4 z5
                go_wp2_with fail
                go_roundw
                case rel => exact ⟨j + 1, cx, cy + 1, by omega, by omega, by omega, by go_num, by go_num, by go_num, Lib.hid ⟨by first | rw [HN1.out, HCT.out.1]; rfl | rw [← HXEwr.out, HN1.out, HCT.out.1]; rfl, by first | rw [HN.out, HCT.out.2]; rfl | rw [← HXEwr.out, HN.out, HCT.out.2]; rfl⟩, WB2.out⟩
                case measure => simp [intOf]; omega
              | false =>
                go_wp2_with fail
                go_quiet_grown ((go_at_call 25; exact Calls.grown_of (hsm _ _)))
                have hB3 := V2B.out.trans ((Grw.below (w := V2) (w' := grow (V2.drewN nq) osq) ⟨nq, osq, rfl⟩).mono V2B.out.size)
                generalize grow (V2.drewN nq) osq = V3 at hB3 ⊢
                have WB2 := Lib.hid hB3
                clear hB3 hsm a0 a1 a2 a3 a4 a5 z0 z1 z2 z3 z4 z5
                go_wp2_with fail
                go_roundw
                case rel => exact ⟨j + 1, cx, cy, by omega, by omega, by omega, by go_num, by go_num, by go_num, Lib.hid ⟨by first | rw [HN1.out, HCT.out.1]; rfl | rw [← HXEwr.out, HN1.out, HCT.out.1]; rfl, by first | rw [HN.out, HCT.out.2]; rfl | rw [← HXEwr.out, HN.out, HCT.out.2]; rfl⟩, WB2.out⟩
                case measure => simp [intOf]; omega
          · have hjl : j = len := by omega
            have hcc : cx = cy := by
              rw [HCT.out.1, HCT.out.2, hjl]
              exact cntZ_full HMEM.out HLL.out
            subst hcc
            clear hjl
            go_wp2_with fail
            go_roundw
            case rel => exact ⟨k + 1, by omega, by go_num, wrB.out⟩
            case measure => simp [intOf]; omega
    · go_wp2_with fail
      go_ret
      exact ⟨rfl, HB5.out.trans (hB.mono HB5.out.size)⟩
end Go.Proofs.Ytekgkeapdlgobaa
