/- The contracts of the document's own two orders: Compare, Confs. -/
import Derived.Test.YtfocjcdfpnbkjaaZKeyMaths
import Derived.Laws.AppendOwnNone
import Derived.BigQuiet
import Derived.BigRegion
set_option linter.unusedVariables false
set_option linter.unusedSimpArgs false
namespace Go.Proofs.Ytfocjcdfpnbkjaa
open Go.RowKit Go.Sort

/-- Does a key come ahead of another one, by their numbers? -/
def lessB (an ap bn bp : Int) : Bool := K.less ⟨an, ap⟩ ⟨bn, bp⟩

end Go.Proofs.Ytfocjcdfpnbkjaa

/- The contract of the document's Sort. -/
set_option linter.unusedVariables false
set_option linter.unusedSimpArgs false
namespace Go.Proofs.Ytfocjcdfpnbkjaa
open Go.RowKit Go.Sort

theorem add_lit' (b o k : Nat) : (⟨b, o, none⟩ : Addr).add k = ⟨b, o + k, none⟩ := by cases k <;> simp [Addr.add]
theorem flat_one {l : List Mg} : ∀ u ∈ flat encG l, u.oneCell' = true := by
  intro u hu
  unfold flat at hu
  obtain ⟨c, hc, huc⟩ := List.mem_flatten.1 hu
  obtain ⟨m, _, rfl⟩ := List.mem_map.1 hc
  exact encG_one m u huc
set_option maxHeartbeats 8000000 in
set_option maxRecDepth 1000000 in
theorem refSort_any (ao : Option Addr) (len cap : Nat) (l : List Mg) (w : World) (h : Lst encG 6 w ao len l) (hn : len ≤ 1048576) :
    Calls Try.prog 29 #[.slice ao len cap] w (Sorted w len l) := by
  have HA := Lib.hid h
  have mixed : Try.prog.follows .mixedOrders = true := by kernel_rfl
  obtain ⟨i0, hi, hz0, hz1, hz2⟩ := info_parts infoM
  clear h
  go_enter Try.func29, Try.ntmps29
  go_wp2_with fail
  go_loopw [3, 4] (fun so si wr => ∃ (k : Nat) (O : List Mg), k ≤ len ∧ si = .int .i64 k ∧ wr.ownsRow w.heap.size 47 6 so k (flat encG O) ∧ Below w.heap.size w wr ∧ Hid (IsSrt Mg.key (l.take k) O)) (fun _ si _ => len - (intOf si).toNat)
  case atStart => exact ⟨0, [], Nat.zero_le _, rfl, World.ownsRow_nil _ _ _ _, Below.refl _ _, Lib.hid (by rw [List.take_zero]; exact IsSrt.same Srt.nil)⟩
  case round =>
    obtain ⟨k, O, hk, rfl, hown, hB, HO⟩ := hrel
    have hOl : O.length = k := by rw [HO.out.fil.length, List.length_take, HA.out.size]; omega
    have HOL := Lib.hid hOl
    by_cases hlt : k < len
    · obtain ⟨b1, o1, x, rfl, hx, hb1, h1⟩ := HA.out.atG hlt
      have hkl := (List.getElem?_eq_some_iff.1 hx).1
      have HTK := Lib.hid (show l.take (k + 1) = l.take k ++ [x] by rw [List.take_succ_eq_append_getElem hkl, (List.getElem?_eq_some_iff.1 hx).2])
      have HX1 := Lib.hid h1
      have HW := Lib.hid hown
      have HBB := Lib.hid hB
      obtain ⟨oo, oc, rfl⟩ := own_form' hown
      clear hx hkl h1 hB hown hOl
      go_wp2_with fail
      go_loopw [5] (fun sc w2 => ∃ c : Nat, c ≤ k ∧ sc = .int .i64 c ∧ Grw wr w2 ∧ Hid (∀ y ∈ O.drop c, x.key.less y.key = true)) (fun sc _ => (intOf sc).toNat)
      case atStart => exact ⟨k, Nat.le_refl _, rfl, Grw.refl _, Lib.hid fun y hy => by rw [List.drop_of_length_le (by rw [HOL.out]; exact Nat.le_refl _)] at hy; cases hy⟩
      case round =>
        obtain ⟨c, hck, rfl, hG, HD⟩ := hrel
        by_cases hc0 : 0 < c
        · obtain ⟨c1, rfl⟩ : ∃ c1, c = c1 + 1 := ⟨c - 1, by omega⟩
          have hLO := own_lst' encG_length HOL.out (own_grw HW.out hG)
          obtain ⟨g, o2, y, hoo, hy, hb2, h2⟩ := hLO.atG (show c1 < k by omega)
          have hforms := own_cases HW.out
          rcases hforms with ⟨hf1, hf2⟩ | ⟨g', cap', hf1, hf2, hf3⟩
          · omega
          have ho2 : oo = some ⟨g', 0, none⟩ ∧ oc = cap' := by injection hf1 with e1 e2 e3; exact ⟨e1, e3⟩
          obtain ⟨rfl, rfl⟩ := ho2
          injection hoo with hoo
          injection hoo with e1 e2
          subst e1 e2
          have hbw := HBB.out.size
          have hgw := hG.below.size
          have HX2 : Hid (∀ c v, (encG x)[c]? = some v → wr.cell? ⟨b1, o1 + k * 6 + c, none⟩ = some v) := Lib.hid fun c v hv => cell_later (HBB.out.trans (hG.below.mono HBB.out.size)) (HX1.out c v hv)
          have cx : ∀ c v, (encG x)[c]? = some v → ∀ n os, (grow (wr.drewN n) os).cell? ⟨b1, o1 + k * 6 + c, none⟩ = some v := fun c v hv => cell_grown (by show b1 < wr.heap.size; omega) (HX2.out c v hv)
          have cy : ∀ c v, (encG y)[c]? = some v → ∀ n os, (grow (wr.drewN n) os).cell? ⟨g', 0 + c1 * 6 + c, none⟩ = some v := fun c v hv => cell_grown (by exact hb2) (h2 c v hv)
          have a0 := cx 0 _ rfl
          have a1 := cx 1 _ rfl
          have a2 := cx 2 _ rfl
          have a3 := cx 3 _ rfl
          have a4 := cx 4 _ rfl
          have a5 := cx 5 _ rfl
          have y0 := cy 0 _ rfl
          have y1 := cy 1 _ rfl
          have y2 := cy 2 _ rfl
          have y3 := cy 3 _ rfl
          have y4 := cy 4 _ rfl
          have y5 := cy 5 _ rfl
          simp only [Nat.add_zero, Nat.zero_add] at a0 y0 y1 y2 y3 y4 y5
          have hof : ∀ (f q s v : Int) (a : Option Addr) (dl dc : Nat) (text : ByteArray) W, Calls Try.prog 79 #[.agg #[.int .i64 f, .int .u32 q, .int .u64 s, .int .i64 v, .slice a dl dc, .string text]] W fun e w' => e = .returned (.agg #[.int .u64 s, .int .i64 f]) ∧ Grw W w' :=
            fun f q s v a dl dc text W => refOf12_any ⟨f, q, s, v, a, dl, dc, [], text⟩ W
          have hls : ∀ (an ap bn bp : Int) W, Calls Try.prog 78 #[.agg #[.int .u64 an, .int .i64 ap], .agg #[.int .u64 bn, .int .i64 bp]] W fun e w' => e = .returned (.bool (lessB an ap bn bp)) ∧ Grw W w' := fun an ap bn bp => less12_any ⟨an, ap⟩ ⟨bn, bp⟩
          have HLB : Hid (lessB x.s x.f y.s y.f = x.key.less y.key) := Lib.hid rfl
          have HG := Lib.hid hG
          have HWR := Lib.hid (own_grw HW.out hG)
          have HBR := Lib.hid (HBB.out.trans (hG.below.mono HBB.out.size))
          have HDN : Hid (O.drop c1 = y :: O.drop (c1 + 1)) := Lib.hid (by
            obtain ⟨hyl, hye⟩ := List.getElem?_eq_some_iff.1 hy
            rw [← hye]; exact List.drop_eq_getElem_cons hyl)
          have HTN : Hid (O.take (c1 + 1) = O.take c1 ++ [y]) := Lib.hid (by
            obtain ⟨hyl, hye⟩ := List.getElem?_eq_some_iff.1 hy
            rw [List.take_succ_eq_append_getElem hyl, hye])
          have hc1k : c1 < k := by omega
          have hwp : IntKind.i64.wrap (c1 : Int) = (c1 : Int) := by rw [IntKind.wrap_i64]; omega
          have hguard : (0 : Int) < (c1 : Int) + 1 := by omega
          have hbx : (k : Int) < (len : Int) := by omega
          have hby : (c1 : Int) < (k : Int) := by omega
          clear cx cy hLO hy h2 hf1 hf3 hG hc0
          generalize x.f = xf at a0 HLB
          generalize x.q = xq at a1
          generalize x.s = xs at a2 HLB
          generalize x.v = xv at a3
          generalize x.a = xa at a4
          generalize x.dl = xdl at a4
          generalize x.dc = xdc at a4
          generalize x.text = xt at a5
          generalize y.f = yf at y0 HLB
          generalize y.q = yq at y1
          generalize y.s = ys at y2 HLB
          generalize y.v = yv at y3
          generalize y.a = ya at y4
          generalize y.dl = ydl at y4
          generalize y.dc = ydc at y4
          generalize y.text = yt at y5
          cases hlb : lessB xs xf ys yf with
          | true =>
            have HLT : Hid (x.key.less y.key = true) := Lib.hid (by rw [← HLB.out]; exact hlb)
            go_wp2_with fail
            go_quiet_grown (first
              | (go_at_call 79; exact Calls.grown_of (hof _ _ _ _ _ _ _ _ _))
              | (go_at_call 78; exact Calls.grown_of (hls _ _ _ _ _)))
            go_wp2_with fail
            go_roundw
            case rel => exact ⟨c1, by omega, by go_num, HG.out.trans ⟨nq, osq, rfl⟩, Lib.hid fun z hz => by
              rw [HDN.out] at hz
              rcases List.mem_cons.1 hz with e | e
              · rw [e]; exact HLT.out
              · exact HD.out z e⟩
            case measure => simp [intOf]
          | false =>
            have HNL : Hid (∀ A z, O.take (c1 + 1) = A ++ [z] → x.key.less z.key = false) := Lib.hid fun A z e => by
              rw [HTN.out] at e
              have := List.append_inj_right' e rfl
              injection this with e1
              rw [← e1, ← HLB.out]; exact hlb
            obtain ⟨c, hcc⟩ : ∃ c, c = c1 + 1 := ⟨_, rfl⟩
            go_wp2_with fail
            go_quiet_grown (first
              | (go_at_call 79; exact Calls.grown_of (hof _ _ _ _ _ _ _ _ _))
              | (go_at_call 78; exact Calls.grown_of (hls _ _ _ _ _)))
            have HW3 := own_grw HWR.out (⟨nq, osq, rfl⟩ : Grw wr (grow (wr.drewN nq) osq))
            have HB3 := HBR.out.trans ((Grw.below (w := wr) (w' := grow (wr.drewN nq) osq) ⟨nq, osq, rfl⟩).mono HBR.out.size)
            generalize grow (wr.drewN nq) osq = V at HW3 HB3 ⊢
            have HW2 := Lib.hid HW3
            have HB2 := Lib.hid HB3
            have hcz : (c1 : Int) + 1 = (c : Int) := by omega
            have HCZ := Lib.hid hcz
            rw [← hcc] at HNL HD hck
            have HRES : Hid (IsSrt Mg.key (l.take (k + 1)) (O.take c ++ x :: O.drop c)) := Lib.hid (by
              rw [HTK.out]
              have h1 := HO.out
              have h2 : IsSrt Mg.key ((O.take c ++ O.drop c) ++ [x]) (O.take c ++ x :: O.drop c) := put_last (by rw [List.take_append_drop]; exact h1.srt) HNL.out (fun y B e => HD.out y (by rw [e]; exact List.mem_cons_self ..))
              rw [List.take_append_drop] at h2
              exact h2.of_fil (h1.fil.app (Fil.refl [x])))
            have hcoc : c ≤ oc := by omega
            clear hcz hcc HW3 HB3 a0 a1 a2 a3 a4 a5 y0 y1 y2 y3 y4 y5 hlb hof hls hwp hguard hby hbw hgw hb1 hb2
            rw [HCZ.out]
            go_wp2_with (at_builtin; refine append_own_any _ rfl (.tmp 33) (.tmp 36) 29 rfl V.heap.size 47 i0 zeroM 6 72 Try.underlying29 hi hz0 hz1 hz2 rfl (by decide) _ 0 [] rfl (World.ownsRow_nil _ _ _ _) _ c _ (flat encG (O.take c)) rfl (fun h => by cases h) ?ql ?qc ?qo ?qm ?qb ?qh ?_)
            case ql => rw [flat_length encG 6 encG_length, List.length_take, HOL.out, Nat.min_eq_left hck]
            case qc =>
              intro ad had j u hj
              injection had with had
              subst had
              refine HW2.out.cells rfl j u ?_
              rw [← List.take_append_drop c O, flat_append]
              rw [List.getElem?_append_left (List.getElem?_eq_some_iff.1 hj).1]
              exact hj
            case qo => exact flat_one
            case qm => unfold maxLen; omega
            case qb => omega
            case qh => exact Nat.le_refl _
            intro v1 w1 hv1 hg1
            have HV1 := Lib.hid hv1
            have HG1 := Lib.hid hg1
            have HB3 := Lib.hid (HB2.out.grown hg1 HB2.out.size (fun j hj => by cases hj))
            have hsz1 : V.heap.size ≤ w1.heap.size := hg1.size
            have X0 : Hid (∀ c v, (encG x)[c]? = some v → w1.cell? ⟨b1, o1 + k * 6 + c, none⟩ = some v) := Lib.hid fun c v hv => cell_later HB3.out (HX1.out c v hv)
            clear hv1 hg1
            have a0 := X0.out 0 _ rfl
            have a1 := X0.out 1 _ rfl
            have a2 := X0.out 2 _ rfl
            have a3 := X0.out 3 _ rfl
            have a4 := X0.out 4 _ rfl
            have a5 := X0.out 5 _ rfl
            simp only [Nat.add_zero] at a0
            generalize hxe : x = x' at a0 a1 a2 a3 a4 a5
            obtain ⟨f, q, s, v, a, dl, dc, deps, text⟩ := x'
            have HXE := Lib.hid hxe
            simp only at a0 a1 a2 a3 a4 a5
            clear hxe
            go_wp2_with (at_builtin; refine append_own_any _ rfl (.tmp 38) (.tmp 43) 29 rfl V.heap.size 47 i0 zeroM 6 72 Try.underlying29 hi hz0 hz1 hz2 rfl (by decide) _ _ _ rfl (HV1.out.alloc _) _ 1 _ [.int .i64 f, .int .u32 q, .int .u64 s, .int .i64 v, .slice a dl dc, .string text] rfl (fun h => by cases h) ?rl ?rc ?ro ?rm ?rb ?rh ?_)
            case rl => rfl
            case rc =>
              intro ad had j u hj
              injection had with had
              subst had
              match j, hj with
              | 0, hj => simp at hj; subst hj; simp [Addr.add]
              | 1, hj => simp at hj; subst hj; simp [Addr.add]
              | 2, hj => simp at hj; subst hj; simp [Addr.add]
              | 3, hj => simp at hj; subst hj; simp [Addr.add]
              | 4, hj => simp at hj; subst hj; simp [Addr.add]
              | 5, hj => simp at hj; subst hj; simp [Addr.add]
              | j + 6, hj => simp at hj
            case ro => intro u hu; simp at hu; rcases hu with rfl | rfl | rfl | rfl | rfl | rfl <;> rfl
            case rm => unfold maxLen; omega
            case rb => omega
            case rh => simp; omega
            intro v2 w2 hv2 hg2
            have HV2 := Lib.hid hv2
            have HG2 := Lib.hid hg2
            have HB4 := Lib.hid ((HB3.out.alloc HB3.out.size (.cells #[.int .i64 f, .int .u32 q, .int .u64 s, .int .i64 v, .slice a dl dc, .string text] 47)).grown hg2 (by have := HB3.out.size; simp; omega) (fun j hj => by
              have := (HV1.out.lt j (by rw [hj])).1
              have := HB2.out.size
              omega))
            have hsz2 : w1.heap.size + 1 ≤ w2.heap.size := by have := hg2.size; simpa using this
            clear hv2 hg2 a0 a1 a2 a3 a4 a5
            have HWK := Lib.hid (((HW2.out.kept HG1.out (.inr (by simp [Value.ownBlock]))).alloc (.cells #[.int .i64 f, .int .u32 q, .int .u64 s, .int .i64 v, .slice a dl dc, .string text] 47)).kept HG2.out (.inr (fun he => by
              have h1 := (HV1.out.lt g' (by rw [← he]; rfl)).1
              have h2 := (HW2.out.lt g' rfl).2
              omega)))
            by_cases hcap : oc = c
            · subst hcap
              have HKC : Hid (k = oc) := Lib.hid (by omega)
              have HDO : Hid (O.drop oc = []) := Lib.hid (List.drop_of_length_le (by rw [HOL.out]; exact Nat.le_of_eq HKC.out))
              go_wp2_with (at_builtin; refine append_own_any _ rfl (.tmp 45) (.tmp 48) 29 rfl V.heap.size 47 i0 zeroM 6 72 Try.underlying29 hi hz0 hz1 hz2 rfl (by decide) _ _ _ rfl HV2.out _ 0 _ [] rfl (fun h => by cases h) ?sl ?sc ?so ?sm ?sb ?sh ?_)
              case sl => rfl
              case sc => intro ad had j u hj; cases hj
              case so => intro u hu; cases hu
              case sm => unfold maxLen; omega
              case sb => omega
              case sh => omega
              intro v3 w3 hv3 hg3
              have HV3 := Lib.hid hv3
              have HB5 := Lib.hid (HB4.out.grown hg3 HB4.out.size (fun j hj => by
                have := (HV2.out.lt j (by rw [hj])).1
                have := HB2.out.size
                omega))
              clear hv3 hg3
              go_wp2_with fail
              go_roundw
              case rel =>
                refine ⟨k + 1, O.take oc ++ x :: O.drop oc, by omega, by go_num, ?_, HB5.out, HRES⟩
                exact own_eq (own_base HV3.out HB2.out.size) (by have := HKC.out; omega) (by rw [flat_append, flat_cons, HXE.out, HDO.out]; simp [encG, flat])
              case measure => simp [intOf]; omega
            · go_wp2_with (at_builtin; refine append_own_any _ rfl (.tmp 45) (.tmp 48) 29 rfl V.heap.size 47 i0 zeroM 6 72 Try.underlying29 hi hz0 hz1 hz2 rfl (by decide) _ _ _ rfl HV2.out _ (k - c) _ (flat encG (O.drop c)) rfl (fun h => by cases h) ?sl ?sc ?so ?sm ?sb ?sh ?_)
              case sl => rw [flat_length encG 6 encG_length, List.length_drop, HOL.out]
              case sc =>
                intro ad had j u hj
                injection had with had
                subst had
                have h2 := HWK.out.cells rfl (c * 6 + j) u (by
                  rw [← List.take_append_drop c O, flat_append]
                  have hl : (flat encG (O.take c)).length = c * 6 := by rw [flat_length encG 6 encG_length, List.length_take, HOL.out, Nat.min_eq_left hck]
                  rw [List.getElem?_append_right (by omega), hl, Nat.add_sub_cancel_left]
                  exact hj)
                rw [add_lit'] at h2 ⊢
                simpa using h2
              case so => exact flat_one
              case sm => unfold maxLen; omega
              case sb => omega
              case sh => omega
              intro v3 w3 hv3 hg3
              have HV3 := Lib.hid hv3
              have HB5 := Lib.hid (HB4.out.grown hg3 HB4.out.size (fun j hj => by
                have := (HV2.out.lt j (by rw [hj])).1
                have := HB2.out.size
                omega))
              clear hv3 hg3
              go_wp2_with fail
              go_roundw
              case rel =>
                refine ⟨k + 1, O.take c ++ x :: O.drop c, by omega, by go_num, ?_, HB5.out, HRES⟩
                exact own_eq (own_base HV3.out HB2.out.size) (by omega) (by rw [flat_append, flat_cons, HXE.out]; simp [encG])
              case measure => simp [intOf]; omega
        · have hcz : c = 0 := by omega
          have HC0 := Lib.hid hcz
          have hgd : decide ((c : Int) > 0) = false := decide_eq_false (by omega)
          have hgd2 : ¬ (0 : Int) < (c : Int) := by omega
          have hgd3 : decide (0 < c) = false := decide_eq_false (by omega)
          have hgd4 : ¬ 0 < c := by omega
          have HNL : Hid (∀ A z, O.take c = A ++ [z] → x.key.less z.key = false) := Lib.hid fun A z e => by rw [hcz] at e; simp at e
          have HW3 := own_grw HW.out (hG.trans (Grw.refl _).drew)
          have HB3 := HBB.out.trans ((hG.trans (Grw.refl _).drew).below.mono HBB.out.size)
          have HG := Lib.hid hG
          have hforms := own_cases HW.out
          rcases hforms with ⟨hf1, hf2⟩ | ⟨g', cap', hf1, hf2, hf3⟩
          · have ho2 : oo = none ∧ oc = 0 := by injection hf1 with e1 e2 e3; exact ⟨e1, e3⟩
            obtain ⟨rfl, rfl⟩ := ho2
            subst hf2 hcz
            have hO : O = [] := List.eq_nil_of_length_eq_zero HOL.out
            have HRES : Hid (IsSrt Mg.key (l.take (0 + 1)) [x]) := Lib.hid (by
              rw [HTK.out]
              have h1 := HO.out
              rw [hO] at h1
              exact (put_last (a := []) (b := []) (x := x) Srt.nil (fun A y e => by simp at e) (fun y B e => by cases e)).of_fil (by
                have := h1.fil.app (Fil.refl [x])
                simpa using this))
            clear hf1 hc0 hG hO
            rw [show ((0 : Nat) : Int) = 0 from rfl]
            go_wp2_with fail
            go_big_region_o
            generalize wr.drew = V at HW3 HB3 ⊢
            have HB2 := Lib.hid HB3
            clear HW3 HB3
            go_wp2_with (at_builtin; refine append_own_any _ rfl (.tmp 33) (.tmp 36) 29 rfl V.heap.size 47 i0 zeroM 6 72 Try.underlying29 hi hz0 hz1 hz2 rfl (by decide) _ 0 [] rfl (World.ownsRow_nil _ _ _ _) _ 0 0 [] rfl (fun _ => ⟨rfl, rfl⟩) ?ql ?qc ?qo ?qm ?qb ?qh ?_)
            case ql => rfl
            case qc => intro ad had; cases had
            case qo => intro u hu; cases hu
            case qm => unfold maxLen; omega
            case qb => omega
            case qh => exact Nat.le_refl _
            intro v1 w1 hv1 hg1
            have HV1 := Lib.hid hv1
            have HG1 := Lib.hid hg1
            have HB3 := Lib.hid (HB2.out.grown hg1 HB2.out.size (fun j hj => by cases hj))
            have hsz1 : V.heap.size ≤ w1.heap.size := hg1.size
            have X0 : Hid (∀ c v, (encG x)[c]? = some v → w1.cell? ⟨b1, o1 + 0 * 6 + c, none⟩ = some v) := Lib.hid fun c v hv => cell_later HB3.out (HX1.out c v hv)
            clear hv1 hg1
            have a0 := X0.out 0 _ rfl
            have a1 := X0.out 1 _ rfl
            have a2 := X0.out 2 _ rfl
            have a3 := X0.out 3 _ rfl
            have a4 := X0.out 4 _ rfl
            have a5 := X0.out 5 _ rfl
            simp only [Nat.add_zero] at a0
            simp only [Nat.zero_mul, Nat.add_zero] at a0 a1 a2 a3 a4 a5
            generalize hxe : x = x' at a0 a1 a2 a3 a4 a5
            obtain ⟨f, q, s, v, a, dl, dc, deps, text⟩ := x'
            have HXE := Lib.hid hxe
            simp only at a0 a1 a2 a3 a4 a5
            clear hxe
            go_wp2_with (at_builtin; refine append_own_any _ rfl (.tmp 38) (.tmp 43) 29 rfl V.heap.size 47 i0 zeroM 6 72 Try.underlying29 hi hz0 hz1 hz2 rfl (by decide) _ _ _ rfl (HV1.out.alloc _) _ 1 _ [.int .i64 f, .int .u32 q, .int .u64 s, .int .i64 v, .slice a dl dc, .string text] rfl (fun h => by cases h) ?rl ?rc ?ro ?rm ?rb ?rh ?_)
            case rl => rfl
            case rc =>
              intro ad had j u hj
              injection had with had
              subst had
              match j, hj with
              | 0, hj => simp at hj; subst hj; simp [Addr.add]
              | 1, hj => simp at hj; subst hj; simp [Addr.add]
              | 2, hj => simp at hj; subst hj; simp [Addr.add]
              | 3, hj => simp at hj; subst hj; simp [Addr.add]
              | 4, hj => simp at hj; subst hj; simp [Addr.add]
              | 5, hj => simp at hj; subst hj; simp [Addr.add]
              | j + 6, hj => simp at hj
            case ro => intro u hu; simp at hu; rcases hu with rfl | rfl | rfl | rfl | rfl | rfl <;> rfl
            case rm => unfold maxLen; omega
            case rb => omega
            case rh => simp; omega
            intro v2 w2 hv2 hg2
            have HV2 := Lib.hid hv2
            have HG2 := Lib.hid hg2
            have HB4 := Lib.hid ((HB3.out.alloc HB3.out.size (.cells #[.int .i64 f, .int .u32 q, .int .u64 s, .int .i64 v, .slice a dl dc, .string text] 47)).grown hg2 (by have := HB3.out.size; simp; omega) (fun j hj => by
              have := (HV1.out.lt j (by rw [hj])).1
              have := HB2.out.size
              omega))
            have hsz2 : w1.heap.size + 1 ≤ w2.heap.size := by have := hg2.size; simpa using this
            clear hv2 hg2 a0 a1 a2 a3 a4 a5
            go_wp2_with (at_builtin; refine append_own_any _ rfl (.tmp 45) (.tmp 48) 29 rfl V.heap.size 47 i0 zeroM 6 72 Try.underlying29 hi hz0 hz1 hz2 rfl (by decide) _ _ _ rfl HV2.out _ 0 0 [] rfl (fun _ => ⟨rfl, rfl⟩) ?sl ?sc ?so ?sm ?sb ?sh ?_)
            case sl => rfl
            case sc => intro ad had; cases had
            case so => intro u hu; cases hu
            case sm => unfold maxLen; omega
            case sb => omega
            case sh => omega
            intro v3 w3 hv3 hg3
            have HV3 := Lib.hid hv3
            have HB5 := Lib.hid (HB4.out.grown hg3 HB4.out.size (fun j hj => by
              have := (HV2.out.lt j (by rw [hj])).1
              have := HB2.out.size
              omega))
            clear hv3 hg3
            go_wp2_with fail
            go_roundw
            case rel =>
              refine ⟨0 + 1, [x], by omega, by go_num, ?_, HB5.out, HRES⟩
              exact own_eq (own_base HV3.out HB2.out.size) (by omega) (by rw [HXE.out]; simp [flat, encG])
            case measure => simp [intOf]; omega
          · have ho2 : oo = some ⟨g', 0, none⟩ ∧ oc = cap' := by injection hf1 with e1 e2 e3; exact ⟨e1, e3⟩
            obtain ⟨rfl, rfl⟩ := ho2
            have HRES : Hid (IsSrt Mg.key (l.take (k + 1)) (O.take c ++ x :: O.drop c)) := Lib.hid (by
              rw [HTK.out]
              have h1 := HO.out
              have h2 : IsSrt Mg.key ((O.take c ++ O.drop c) ++ [x]) (O.take c ++ x :: O.drop c) := put_last (by rw [List.take_append_drop]; exact h1.srt) HNL.out (fun y B e => HD.out y (by rw [e]; exact List.mem_cons_self ..))
              rw [List.take_append_drop] at h2
              exact h2.of_fil (h1.fil.app (Fil.refl [x])))
            have hcoc : c ≤ oc := by omega
            clear hf1 hc0 hG hf3 hcz
            go_wp2_with fail
            go_big_region_o
            generalize wr.drew = V at HW3 HB3 ⊢
            have HW2 := Lib.hid HW3
            have HB2 := Lib.hid HB3
            clear HW3 HB3
            go_wp2_with (at_builtin; refine append_own_any _ rfl (.tmp 33) (.tmp 36) 29 rfl V.heap.size 47 i0 zeroM 6 72 Try.underlying29 hi hz0 hz1 hz2 rfl (by decide) _ 0 [] rfl (World.ownsRow_nil _ _ _ _) _ c _ (flat encG (O.take c)) rfl (fun h => by cases h) ?ql ?qc ?qo ?qm ?qb ?qh ?_)
            case ql => rw [flat_length encG 6 encG_length, List.length_take, HOL.out, Nat.min_eq_left hck]
            case qc =>
              intro ad had j u hj
              injection had with had
              subst had
              refine HW2.out.cells rfl j u ?_
              rw [← List.take_append_drop c O, flat_append]
              rw [List.getElem?_append_left (List.getElem?_eq_some_iff.1 hj).1]
              exact hj
            case qo => exact flat_one
            case qm => unfold maxLen; omega
            case qb => omega
            case qh => exact Nat.le_refl _
            intro v1 w1 hv1 hg1
            have HV1 := Lib.hid hv1
            have HG1 := Lib.hid hg1
            have HB3 := Lib.hid (HB2.out.grown hg1 HB2.out.size (fun j hj => by cases hj))
            have hsz1 : V.heap.size ≤ w1.heap.size := hg1.size
            have X0 : Hid (∀ c v, (encG x)[c]? = some v → w1.cell? ⟨b1, o1 + k * 6 + c, none⟩ = some v) := Lib.hid fun c v hv => cell_later HB3.out (HX1.out c v hv)
            clear hv1 hg1
            have a0 := X0.out 0 _ rfl
            have a1 := X0.out 1 _ rfl
            have a2 := X0.out 2 _ rfl
            have a3 := X0.out 3 _ rfl
            have a4 := X0.out 4 _ rfl
            have a5 := X0.out 5 _ rfl
            simp only [Nat.add_zero] at a0
            generalize hxe : x = x' at a0 a1 a2 a3 a4 a5
            obtain ⟨f, q, s, v, a, dl, dc, deps, text⟩ := x'
            have HXE := Lib.hid hxe
            simp only at a0 a1 a2 a3 a4 a5
            clear hxe
            go_wp2_with (at_builtin; refine append_own_any _ rfl (.tmp 38) (.tmp 43) 29 rfl V.heap.size 47 i0 zeroM 6 72 Try.underlying29 hi hz0 hz1 hz2 rfl (by decide) _ _ _ rfl (HV1.out.alloc _) _ 1 _ [.int .i64 f, .int .u32 q, .int .u64 s, .int .i64 v, .slice a dl dc, .string text] rfl (fun h => by cases h) ?rl ?rc ?ro ?rm ?rb ?rh ?_)
            case rl => rfl
            case rc =>
              intro ad had j u hj
              injection had with had
              subst had
              match j, hj with
              | 0, hj => simp at hj; subst hj; simp [Addr.add]
              | 1, hj => simp at hj; subst hj; simp [Addr.add]
              | 2, hj => simp at hj; subst hj; simp [Addr.add]
              | 3, hj => simp at hj; subst hj; simp [Addr.add]
              | 4, hj => simp at hj; subst hj; simp [Addr.add]
              | 5, hj => simp at hj; subst hj; simp [Addr.add]
              | j + 6, hj => simp at hj
            case ro => intro u hu; simp at hu; rcases hu with rfl | rfl | rfl | rfl | rfl | rfl <;> rfl
            case rm => unfold maxLen; omega
            case rb => omega
            case rh => simp; omega
            intro v2 w2 hv2 hg2
            have HV2 := Lib.hid hv2
            have HG2 := Lib.hid hg2
            have HB4 := Lib.hid ((HB3.out.alloc HB3.out.size (.cells #[.int .i64 f, .int .u32 q, .int .u64 s, .int .i64 v, .slice a dl dc, .string text] 47)).grown hg2 (by have := HB3.out.size; simp; omega) (fun j hj => by
              have := (HV1.out.lt j (by rw [hj])).1
              have := HB2.out.size
              omega))
            have hsz2 : w1.heap.size + 1 ≤ w2.heap.size := by have := hg2.size; simpa using this
            clear hv2 hg2 a0 a1 a2 a3 a4 a5
            have HWK := Lib.hid (((HW2.out.kept HG1.out (.inr (by simp [Value.ownBlock]))).alloc (.cells #[.int .i64 f, .int .u32 q, .int .u64 s, .int .i64 v, .slice a dl dc, .string text] 47)).kept HG2.out (.inr (fun he => by
              have h1 := (HV1.out.lt g' (by rw [← he]; rfl)).1
              have h2 := (HW2.out.lt g' rfl).2
              omega)))
            by_cases hcap : oc = c
            · subst hcap
              have HKC : Hid (k = oc) := Lib.hid (by omega)
              have HDO : Hid (O.drop oc = []) := Lib.hid (List.drop_of_length_le (by rw [HOL.out]; exact Nat.le_of_eq HKC.out))
              go_wp2_with (at_builtin; refine append_own_any _ rfl (.tmp 45) (.tmp 48) 29 rfl V.heap.size 47 i0 zeroM 6 72 Try.underlying29 hi hz0 hz1 hz2 rfl (by decide) _ _ _ rfl HV2.out _ 0 _ [] rfl (fun h => by cases h) ?sl ?sc ?so ?sm ?sb ?sh ?_)
              case sl => rfl
              case sc => intro ad had j u hj; cases hj
              case so => intro u hu; cases hu
              case sm => unfold maxLen; omega
              case sb => omega
              case sh => omega
              intro v3 w3 hv3 hg3
              have HV3 := Lib.hid hv3
              have HB5 := Lib.hid (HB4.out.grown hg3 HB4.out.size (fun j hj => by
                have := (HV2.out.lt j (by rw [hj])).1
                have := HB2.out.size
                omega))
              clear hv3 hg3
              go_wp2_with fail
              go_roundw
              case rel =>
                refine ⟨k + 1, O.take oc ++ x :: O.drop oc, by omega, by go_num, ?_, HB5.out, HRES⟩
                exact own_eq (own_base HV3.out HB2.out.size) (by have := HKC.out; omega) (by rw [flat_append, flat_cons, HXE.out, HDO.out]; simp [encG, flat])
              case measure => simp [intOf]; omega
            · go_wp2_with (at_builtin; refine append_own_any _ rfl (.tmp 45) (.tmp 48) 29 rfl V.heap.size 47 i0 zeroM 6 72 Try.underlying29 hi hz0 hz1 hz2 rfl (by decide) _ _ _ rfl HV2.out _ (k - c) _ (flat encG (O.drop c)) rfl (fun h => by cases h) ?sl ?sc ?so ?sm ?sb ?sh ?_)
              case sl => rw [flat_length encG 6 encG_length, List.length_drop, HOL.out]
              case sc =>
                intro ad had j u hj
                injection had with had
                subst had
                have h2 := HWK.out.cells rfl (c * 6 + j) u (by
                  rw [← List.take_append_drop c O, flat_append]
                  have hl : (flat encG (O.take c)).length = c * 6 := by rw [flat_length encG 6 encG_length, List.length_take, HOL.out, Nat.min_eq_left hck]
                  rw [List.getElem?_append_right (by omega), hl, Nat.add_sub_cancel_left]
                  exact hj)
                rw [add_lit'] at h2 ⊢
                simpa using h2
              case so => exact flat_one
              case sm => unfold maxLen; omega
              case sb => omega
              case sh => omega
              intro v3 w3 hv3 hg3
              have HV3 := Lib.hid hv3
              have HB5 := Lib.hid (HB4.out.grown hg3 HB4.out.size (fun j hj => by
                have := (HV2.out.lt j (by rw [hj])).1
                have := HB2.out.size
                omega))
              clear hv3 hg3
              go_wp2_with fail
              go_roundw
              case rel =>
                refine ⟨k + 1, O.take c ++ x :: O.drop c, by omega, by go_num, ?_, HB5.out, HRES⟩
                exact own_eq (own_base HV3.out HB2.out.size) (by omega) (by rw [flat_append, flat_cons, HXE.out]; simp [encG])
              case measure => simp [intOf]; omega
    · have hml : O.length = len := by rw [HOL.out]; omega
      have hkl : k = len := by omega
      subst hkl
      have HE : Hid (IsSrt Mg.key l O) := Lib.hid (by
        have := HO.out
        rw [List.take_of_length_le (by rw [HA.out.size]; exact Nat.le_refl _)] at this
        exact this)
      obtain ⟨oo, oc, rfl⟩ := own_form' hown
      have HC := Lib.hid (own_cases hown)
      have HL := Lib.hid (own_lst' encG_length hml hown)
      have HBB := Lib.hid hB
      clear hown hB HO hml HOL
      go_wp2_with fail
      go_ret
      refine ⟨oo, oc, O, rfl, fun hnil => ?_, HE.out, HL.out, HBB.out⟩
      rcases HC.out with ⟨h1, _⟩ | ⟨g, c, h1, _⟩
      · injection h1
      · injection h1 with h2
        rw [hnil] at h2
        cases h2
end Go.Proofs.Ytfocjcdfpnbkjaa
