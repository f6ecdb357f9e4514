/- Layer 18: the document's Pending. (Written by wip/gen_voref3.py.) -/
import Derived.Test.YtlaenabckpjikaaVoRef2
set_option linter.unusedVariables false
set_option maxRecDepth 100000
set_option linter.unusedSimpArgs false
namespace Go.Proofs.Ytlaenabckpjikaa
open Go.RowKit Go.Sort Go.Maps

theorem onceV_next (Y : List Vw) (v : Vw) (N : Nat) (hN : N < v.n) : onceV (Y ++ [v]) = if v ∈ onceV Y then onceV Y else onceV Y ++ [v] := by rw [onceV_snoc]; rfl
set_option maxHeartbeats 8000000 in
theorem rpend {w : World} {ao : Option Addr} {n : Nat} {l : List Rc} (h : RcL w ao n l) (c : Nat) (hn : n ≤ 100000) (hs : sumP (psL l) ≤ 100000) :
    Calls Try.prog 15 #[.slice ao n c] w fun e w' => ∃ v, e = .returned v ∧ w'.ownsRow w.heap.size 31 4 v (pendV (psL l)).length (flat encV (pendV (psL l))) ∧ Below w.heap.size w w' := by
  have HL := Lib.hid h
  have HLEN := Lib.hid h.at_.size
  have HSUM := Lib.hid hs
  have HLO := Lib.hid (lastR_ok _ h.ok)
  have HPV := Lib.hid (show pendV (psL l) = onceV (allP (psL l) (lastR (psL l)).n) from rfl)
  have PL := Lib.hid (show ∀ wx, Below w.heap.size w wx → Calls Try.prog 12 #[.slice ao n c] wx fun e w' => e = .returned (valV (lastR (psL l))) ∧ Below wx.heap.size wx w' from fun wx hb => rlast (h.below hb) c hn)
  clear h hs
  obtain ⟨⟨N, te, tr, tm⟩, hT⟩ : ∃ T, T = lastR (psL l) := ⟨_, rfl⟩
  rw [← hT] at PL HLO HPV
  clear hT
  simp only at HPV
  unfold valV encV at PL
  have W0 := Lib.hid (Below.refl w.heap.size w)
  go_enter Try.func15, Try.ntmps15
  go_wp2
  go_loopw [3, 4] (fun sv si wr => ∃ k : Nat, k ≤ n ∧ si = .int .i64 k ∧ Aside (Below w.heap.size w wr) ∧ Aside (wr.ownsRow w.heap.size 31 4 sv (onceV (allP (psL (l.take k)) N)).length (flat encV (onceV (allP (psL (l.take k)) N))))) (fun _ si _ => n - (intOf si).toNat)
  case atStart => exact ⟨0, Nat.zero_le _, rfl, W0.out, World.ownsRow_nil _ _ _ _⟩
  case round =>
    obtain ⟨k, hk, rfl, HB, HO⟩ := hrel
    by_cases hlt : k < n
    · obtain ⟨b, o, x, rfl, hx, hr, hin⟩ := HL.out.row hlt
      have HA := Lib.hid (show allP (psL (l.take (k + 1))) N = allP (psL (l.take k)) N ++ behindV x.p.pend N by rw [psL_take hx, allP_snoc])
      have HRX := Lib.hid hr
      have HPN := Lib.hid hin.pend
      have hlen := hin.len
      have hsum : sumP (psL (l.take k)) + x.p.pend.length ≤ 100000 := by
        have h1 : sumP (psL (l.take (k + 1))) ≤ sumP (psL l) := by
          have := sumP_take_le (psL l) (k + 1)
          unfold psL at this ⊢
          rw [← List.map_take] at this
          exact this
        rw [psL_take hx, sumP_snoc] at h1
        have := HSUM.out
        omega
      have hal := allP_le (psL (l.take k)) N
      have HAO := Lib.hid (show ∀ v ∈ allP (psL (l.take k)) N, v.ok from fun v hv => by
        obtain ⟨r, hr, hp, _⟩ := (allP_mem _ _ _).1 hv
        exact (HL.out.ok r (List.map_subset _ (List.take_subset _ _) hr)).pend v hp)
      obtain ⟨A, hA⟩ : ∃ A, A = allP (psL (l.take k)) N := ⟨_, rfl⟩
      rw [← hA] at HA hal HAO HO
      clear hr hx hA hin
      obtain ⟨⟨xl, pe⟩, pa, pk, pc⟩ := x
      simp only at HA hsum hlen HPN
      have HO0 := Lib.hid (own_eq HO.out (show _ = (onceV (A ++ behindV (pe.take 0) N)).length by rw [List.take_zero]; simp [behindV]) (show _ = flat encV (onceV (A ++ behindV (pe.take 0) N)) by rw [List.take_zero]; simp [behindV]))
      have HB0 := Lib.hid HB.out
      clear HO HB
      go_upto_region 6 with fail
      go_loopw [3, 5] (fun sv si wr => ∃ q : Nat, q ≤ pk ∧ si = .int .i64 q ∧ Aside (Below w.heap.size w wr) ∧ Aside (wr.ownsRow w.heap.size 31 4 sv (onceV (A ++ behindV (pe.take q) N)).length (flat encV (onceV (A ++ behindV (pe.take q) N))))) (fun _ si _ => pk - (intOf si).toNat)
      case atStart => exact ⟨0, Nat.zero_le _, rfl, HB0.out, HO0.out⟩
      case round =>
        obtain ⟨q, hq, rfl, HB, HO⟩ := hrel
        clear HB0 HO0
        have c4 : wr.cell? ⟨b, o + k * 5 + 4, none⟩ = some (.slice pa pk pc) := cell_later HB.out (HRX.out 4 _ rfl)
        by_cases hql : q < pk
        · obtain ⟨b2, o2, v, rfl, hv, hr2, hok⟩ := HPN.out.row hql
          have HY := Lib.hid (show behindV (pe.take (q + 1)) N = if N < v.n then behindV (pe.take q) N ++ [v] else behindV (pe.take q) N by rw [take_snoc hv, behindV_snoc])
          have HV := Lib.hid hok
          have hr3 : wr.rangeAt b2 (o2 + q * 4) (encV v) := fun j u hj => cell_later HB.out (hr2 j u hj)
          have HR := Lib.hid hr3
          have hyl : (A ++ behindV (pe.take q) N).length ≤ 100000 := by
            have h1 := behindV_le (pe.take q) N
            rw [List.length_append]
            rw [List.length_take] at h1
            omega
          have HXO := Lib.hid (show ∀ u ∈ onceV (A ++ behindV (pe.take q) N), u.ok from fun u hu => by
            rcases List.mem_append.1 ((onceV_mem _ _).1 hu) with h | h
            · exact HAO.out u h
            · exact HPN.out.ok u (List.take_subset _ _ ((behindV_mem _ _ _).1 h).1))
          have HXL := Lib.hid (onceV_le (A ++ behindV (pe.take q) N))
          have HON := Lib.hid (onceV_next (A ++ behindV (pe.take q) N) v N)
          obtain ⟨Y, hY⟩ : ∃ Y, Y = behindV (pe.take q) N := ⟨_, rfl⟩
          rw [← hY] at HY hyl HXO HXL HON HO
          have L6 := ((Grw.refl wr).alloc (.cells #[.int .u64 (v.n : Int), .int .u64 (v.e : Int), .int .i64 v.r, .int .u64 (v.m : Int)] 31)).below
          have X6 := Lib.hid (VwB.new wr v)
          have HB6 := Lib.hid (HB.out.trans (L6.mono HB.out.size))
          have HO6 := own_below18 HO.out L6
          clear hr2 hr3 hv hok hY L6 HB HO
          obtain ⟨X, hX⟩ : ∃ X, X = onceV (A ++ Y) := ⟨_, rfl⟩
          rw [← hX] at HXO HXL HON HO6
          have HX := Lib.hid hX
          clear hX
          obtain ⟨un, ue, ur, um⟩ := v
          unfold encV at HR
          go_upto_region 9 with (first | (refine load_vwm rfl (.tmp 31) rfl b2 (o2 + q * 4) ⟨un, ue, ur, um⟩ rfl HR.out ?_) | fail)
          generalize wr.alloc (.cells #[.int .u64 un, .int .u64 ue, .int .i64 ur, .int .u64 um] 31) = w6 at *
          generalize wr.heap.size = vb at *
          clear HR c4
          obtain ⟨a3, c3, rfl⟩ := own_form' HO6
          have HRD := Lib.hid (own_vws HO6 rfl HXO.out)
          have HO6 := Lib.hid HO6
          have W6 := Lib.hid (Below.refl w6.heap.size w6)
          have hxl : X.length ≤ 100000 := Nat.le_trans HXL.out hyl
          go_upto_region 11 with fail
          go_loopw [7, 8] (fun st si wr => ∃ (j : Nat) (t : Bool), j ≤ X.length ∧ st = .bool t ∧ si = .int .i64 j ∧ Aside (Below w6.heap.size w6 wr) ∧ Aside (t = true ↔ (⟨un, ue, ur, um⟩ : Vw) ∈ X.take j)) (fun _ si _ => X.length - (intOf si).toNat)
          case atStart => exact ⟨0, false, Nat.zero_le _, rfl, rfl, W6.out, ⟨fun h => (by cases h), fun h => (by cases h)⟩⟩
          case round =>
            obtain ⟨j, t, hj, rfl, rfl, HB7, HT⟩ := hrel
            by_cases hjl : j < X.length
            · obtain ⟨b3, o3, u, rfl, hu, hr3, _⟩ := (HRD.out.below HB7.out).row hjl
              have HTN := Lib.hid (show ((⟨un, ue, ur, um⟩ : Vw) ∈ X.take (j + 1)) ↔ ((⟨un, ue, ur, um⟩ : Vw) ∈ X.take j) ∨ u = ⟨un, ue, ur, um⟩ by
                rw [take_snoc hu, List.mem_append, List.mem_singleton]
                exact ⟨fun h => h.imp_right Eq.symm, fun h => h.imp_right Eq.symm⟩)
              have hq := fun w => eql_vw u ⟨un, ue, ur, um⟩ w
              obtain ⟨bb, hbb⟩ : ∃ bb, bb = decide (u = ⟨un, ue, ur, um⟩) := ⟨_, rfl⟩
              rw [← hbb] at hq
              have HBB := Lib.hid hbb
              clear hbb hu
              obtain ⟨yn, ye, yr, ym⟩ := u
              unfold valV encV at hq
              have y0 : wr.cell? ⟨b3, o3 + j * 4, none⟩ = some (.int .u64 (yn : Int)) := hr3 0 _ rfl
              have y1 : wr.cell? ⟨b3, o3 + j * 4 + 1, none⟩ = some (.int .u64 (ye : Int)) := hr3 1 _ rfl
              have y2 : wr.cell? ⟨b3, o3 + j * 4 + 2, none⟩ = some (.int .i64 yr) := hr3 2 _ rfl
              have y3 : wr.cell? ⟨b3, o3 + j * 4 + 3, none⟩ = some (.int .u64 (ym : Int)) := hr3 3 _ rfl
              have x6 := (X6.out.later HB7.out).own
              have x0 : wr.cell? ⟨vb, 0, none⟩ = some (.int .u64 (un : Int)) := x6.at_ 0 _ rfl
              have x1 : wr.cell? ⟨vb, 1, none⟩ = some (.int .u64 (ue : Int)) := x6.at_ 1 _ rfl
              have x2 : wr.cell? ⟨vb, 2, none⟩ = some (.int .i64 ur) := x6.at_ 2 _ rfl
              have x3 : wr.cell? ⟨vb, 3, none⟩ = some (.int .u64 (um : Int)) := x6.at_ 3 _ rfl
              clear hr3 x6
              go_upto_region 13 with fail
              cases t with
              | true =>
                go_quiet (fail)
                have HB8 := Lib.hid (HB7.out.trans ((drewN_below wr nq).mono HB7.out.size))
                have HF := Lib.hid (show (true = true ↔ (⟨un, ue, ur, um⟩ : Vw) ∈ X.take (j + 1)) from ⟨fun _ => HTN.out.2 (.inl (HT.out.1 rfl)), fun _ => rfl⟩)
                go_wp2
                go_roundw
                case rel => exact ⟨j + 1, true, by omega, rfl, by go_num, HB8.out, HF.out⟩
                case measure => simp [intOf]; omega
              | false =>
                go_quiet (fail)
                have HB8 := Lib.hid (HB7.out.trans ((drewN_below wr nq).mono HB7.out.size))
                have HF := Lib.hid (show (bb = true ↔ (⟨un, ue, ur, um⟩ : Vw) ∈ X.take (j + 1)) by
                  rw [HTN.out, HBB.out, decide_eq_true_iff]
                  exact ⟨fun h => .inr h, fun h => h.elim (fun h => absurd (HT.out.2 h) (by decide)) id⟩)
                go_wp2
                go_roundw
                case rel => exact ⟨j + 1, bb, by omega, rfl, by go_num, HB8.out, HF.out⟩
                case measure => simp [intOf]; omega
            · obtain rfl : j = X.length := by omega
              have HTX := Lib.hid (show (t = true ↔ (⟨un, ue, ur, um⟩ : Vw) ∈ X) by
                have := HT.out
                rw [List.take_of_length_le (Nat.le_refl _)] at this
                exact this)
              have HX7 := Lib.hid (X6.out.later HB7.out)
              have HB8 := Lib.hid (HB6.out.trans (HB7.out.mono HB6.out.size))
              have HO8 := Lib.hid (own_below18 HO6.out HB7.out)
              clear HT HRD
              go_upto_region 14 with fail
              have HAY := Lib.hid (show A ++ (Y ++ [(⟨un, ue, ur, um⟩ : Vw)]) = (A ++ Y) ++ [(⟨un, ue, ur, um⟩ : Vw)] from (List.append_assoc _ _ _).symm)
              by_cases hgt : N < un
              · have hgi : (N : Int) < (un : Int) := by omega
                have HY2 := Lib.hid (show behindV (pe.take (q + 1)) N = Y ++ [(⟨un, ue, ur, um⟩ : Vw)] by rw [HY.out]; exact if_pos hgt)
                cases t with
                | true =>
                  have HXN := Lib.hid (show X = onceV (A ++ behindV (pe.take (q + 1)) N) by
                    rw [HY2.out, HAY.out, HON.out hgt, if_pos (HTX.out.1 rfl)])
                  have X10 : VwB wr.drew vb ⟨un, ue, ur, um⟩ := HX7.out
                  have B10 : Below w.heap.size w wr.drew := HB8.out.trans ((Grw.refl wr).drew.below.mono HB8.out.size)
                  have O10 := own_below18 HO8.out (Grw.refl wr).drew.below
                  refine wp_region_held_drew (S := fun w' => VwB w' vb ⟨un, ue, ur, um⟩) (by kernel_rfl) X10 (fun hHeld => ?_)
                  clear HX7 HB8 HO8
                  generalize wr.drew = w10 at *
                  refine vtake (i := 0) (v := (.pointer (some ⟨vb, 0, none⟩))) 48 rfl (by kernel_rfl) (by kernel_rfl) (by kernel_rfl) (by kernel_rfl) (fun _ _ _ h => h) (.inl ⟨by kernel_rfl, fun w' hS => by (go_simp)⟩) hHeld ?_
                  (try simp only [Act.put, List.setIfInBounds_toArray, List.set_cons_zero, List.set_cons_succ])
                  refine vtake (i := 1) (v := (.int .u64 (un : Int))) 49 rfl (by kernel_rfl) (by kernel_rfl) (by kernel_rfl) (by kernel_rfl) (fun _ _ _ h => h) (.inl ⟨by kernel_rfl, fun w' hS => by (have d0 := (VwB.own hS).at_ 0 _ rfl; simp only at d0; go_simp)⟩) hHeld ?_
                  (try simp only [Act.put, List.setIfInBounds_toArray, List.set_cons_zero, List.set_cons_succ])
                  refine vtake (i := 2) (v := (.slice (some ⟨b, o, none⟩) n c)) 50 rfl (by kernel_rfl) (by kernel_rfl) (by kernel_rfl) (by kernel_rfl) (fun _ _ _ h => h) (.inl ⟨by kernel_rfl, fun w' hS => by (go_simp)⟩) hHeld ?_
                  (try simp only [Act.put, List.setIfInBounds_toArray, List.set_cons_zero, List.set_cons_succ])
                  refine wpAnyH_ready (rs := [3]) (by kernel_rfl) (by simp) (AllReadyH.cons rfl (fun K hK => ?_) AllReadyH.nil)
                  rw [if_pos (by kernel_rfl)]
                  go_simp
                  refine (PL.out _ B10).mono ?_
                  rintro e w11 ⟨rfl, B11⟩
                  have X11 := X10.later B11
                  have B12 := Lib.hid (B10.trans (B11.mono B10.size))
                  have O12 := Lib.hid (own_below18 O10 B11)
                  refine hK.out _ _ X11 (fun hHeld => ?_)
                  clear hK K B11 B10 O10 X10
                  (try simp only [Act.put, List.setIfInBounds_toArray, List.set_cons_zero, List.set_cons_succ])
                  refine vtake (i := 4) (v := (.int .u64 (N : Int))) 52 rfl (by kernel_rfl) (by kernel_rfl) (by kernel_rfl) (by kernel_rfl) (fun _ _ _ h => h) (.inl ⟨by kernel_rfl, fun w' hS => by (have hfd := field_n N te tr tm; go_simp)⟩) hHeld ?_
                  (try simp only [Act.put, List.setIfInBounds_toArray, List.set_cons_zero, List.set_cons_succ])
                  refine vtake (i := 5) (v := (.bool true)) 53 rfl (by kernel_rfl) (by kernel_rfl) (by kernel_rfl) (by kernel_rfl) (fun _ _ _ h => h) (.inl ⟨by kernel_rfl, fun w' hS => by (go_simp)⟩) hHeld ?_
                  (try simp only [Act.put, List.setIfInBounds_toArray, List.set_cons_zero, List.set_cons_succ])
                  refine vtake (i := 6) (v := (.bool true)) 54 rfl (by kernel_rfl) (by kernel_rfl) (by kernel_rfl) (by kernel_rfl) (fun _ _ _ h => h) (.inl ⟨by kernel_rfl, fun w' hS => by (go_simp)⟩) hHeld ?_
                  (try simp only [Act.put, List.setIfInBounds_toArray, List.set_cons_zero, List.set_cons_succ])
                  refine vtake (i := 7) (v := (.bool true)) 55 rfl (by kernel_rfl) (by kernel_rfl) (by kernel_rfl) (by kernel_rfl) (fun _ _ _ h => h) (.inl ⟨by kernel_rfl, fun w' hS => by (go_simp)⟩) hHeld ?_
                  (try simp only [Act.put, List.setIfInBounds_toArray, List.set_cons_zero, List.set_cons_succ])
                  refine vtake (i := 8) (v := (.bool false)) 56 rfl (by kernel_rfl) (by kernel_rfl) (by kernel_rfl) (by kernel_rfl) (fun _ _ _ h => h) (.inl ⟨by kernel_rfl, fun w' hS => by (go_simp)⟩) hHeld ?_
                  (try simp only [Act.put, List.setIfInBounds_toArray, List.set_cons_zero, List.set_cons_succ])
                  refine vtake (i := 9) (v := (.bool false)) 57 rfl (by kernel_rfl) (by kernel_rfl) (by kernel_rfl) (by kernel_rfl) (fun _ _ _ h => h) (.inl ⟨by kernel_rfl, fun w' hS => by (go_simp)⟩) hHeld ?_
                  (try simp only [Act.put, List.setIfInBounds_toArray, List.set_cons_zero, List.set_cons_succ])
                  refine wpAnyH_done (by kernel_rfl) ?_ _
                  clear hHeld
                  have HO13 := Lib.hid (own_eq O12.out (congrArg List.length HXN.out) (congrArg (flat encV) HXN.out))
                  clear O12
                  go_wp2
                  go_roundw
                  case rel => exact ⟨q + 1, by omega, by go_num, B12.out, HO13.out⟩
                  case measure => simp [intOf]; omega
                | false =>
                  have HXN := Lib.hid (show X ++ [(⟨un, ue, ur, um⟩ : Vw)] = onceV (A ++ behindV (pe.take (q + 1)) N) by
                    rw [HY2.out, HAY.out, HON.out hgt, if_neg (fun h => by have := HTX.out.2 h; cases this)])
                  have X10 : VwB wr.drew vb ⟨un, ue, ur, um⟩ := HX7.out
                  have B10 : Below w.heap.size w wr.drew := HB8.out.trans ((Grw.refl wr).drew.below.mono HB8.out.size)
                  have O10 := own_below18 HO8.out (Grw.refl wr).drew.below
                  refine wp_region_held_drew (S := fun w' => VwB w' vb ⟨un, ue, ur, um⟩) (by kernel_rfl) X10 (fun hHeld => ?_)
                  clear HX7 HB8 HO8
                  generalize wr.drew = w10 at *
                  refine vtake (i := 0) (v := (.pointer (some ⟨vb, 0, none⟩))) 48 rfl (by kernel_rfl) (by kernel_rfl) (by kernel_rfl) (by kernel_rfl) (fun _ _ _ h => h) (.inl ⟨by kernel_rfl, fun w' hS => by (go_simp)⟩) hHeld ?_
                  (try simp only [Act.put, List.setIfInBounds_toArray, List.set_cons_zero, List.set_cons_succ])
                  refine vtake (i := 1) (v := (.int .u64 (un : Int))) 49 rfl (by kernel_rfl) (by kernel_rfl) (by kernel_rfl) (by kernel_rfl) (fun _ _ _ h => h) (.inl ⟨by kernel_rfl, fun w' hS => by (have d0 := (VwB.own hS).at_ 0 _ rfl; simp only at d0; go_simp)⟩) hHeld ?_
                  (try simp only [Act.put, List.setIfInBounds_toArray, List.set_cons_zero, List.set_cons_succ])
                  refine vtake (i := 2) (v := (.slice (some ⟨b, o, none⟩) n c)) 50 rfl (by kernel_rfl) (by kernel_rfl) (by kernel_rfl) (by kernel_rfl) (fun _ _ _ h => h) (.inl ⟨by kernel_rfl, fun w' hS => by (go_simp)⟩) hHeld ?_
                  (try simp only [Act.put, List.setIfInBounds_toArray, List.set_cons_zero, List.set_cons_succ])
                  refine wpAnyH_ready (rs := [3]) (by kernel_rfl) (by simp) (AllReadyH.cons rfl (fun K hK => ?_) AllReadyH.nil)
                  rw [if_pos (by kernel_rfl)]
                  go_simp
                  refine (PL.out _ B10).mono ?_
                  rintro e w11 ⟨rfl, B11⟩
                  have X11 := X10.later B11
                  have B12 := Lib.hid (B10.trans (B11.mono B10.size))
                  have O12 := Lib.hid (own_below18 O10 B11)
                  refine hK.out _ _ X11 (fun hHeld => ?_)
                  clear hK K B11 B10 O10 X10
                  (try simp only [Act.put, List.setIfInBounds_toArray, List.set_cons_zero, List.set_cons_succ])
                  refine vtake (i := 4) (v := (.int .u64 (N : Int))) 52 rfl (by kernel_rfl) (by kernel_rfl) (by kernel_rfl) (by kernel_rfl) (fun _ _ _ h => h) (.inl ⟨by kernel_rfl, fun w' hS => by (have hfd := field_n N te tr tm; go_simp)⟩) hHeld ?_
                  (try simp only [Act.put, List.setIfInBounds_toArray, List.set_cons_zero, List.set_cons_succ])
                  refine vtake (i := 5) (v := (.bool true)) 53 rfl (by kernel_rfl) (by kernel_rfl) (by kernel_rfl) (by kernel_rfl) (fun _ _ _ h => h) (.inl ⟨by kernel_rfl, fun w' hS => by (go_simp)⟩) hHeld ?_
                  (try simp only [Act.put, List.setIfInBounds_toArray, List.set_cons_zero, List.set_cons_succ])
                  refine vtake (i := 6) (v := (.bool true)) 54 rfl (by kernel_rfl) (by kernel_rfl) (by kernel_rfl) (by kernel_rfl) (fun _ _ _ h => h) (.inl ⟨by kernel_rfl, fun w' hS => by (go_simp)⟩) hHeld ?_
                  (try simp only [Act.put, List.setIfInBounds_toArray, List.set_cons_zero, List.set_cons_succ])
                  refine vtake (i := 7) (v := (.bool false)) 55 rfl (by kernel_rfl) (by kernel_rfl) (by kernel_rfl) (by kernel_rfl) (fun _ _ _ h => h) (.inl ⟨by kernel_rfl, fun w' hS => by (go_simp)⟩) hHeld ?_
                  (try simp only [Act.put, List.setIfInBounds_toArray, List.set_cons_zero, List.set_cons_succ])
                  refine vtake (i := 8) (v := (.bool true)) 56 rfl (by kernel_rfl) (by kernel_rfl) (by kernel_rfl) (by kernel_rfl) (fun _ _ _ h => h) (.inl ⟨by kernel_rfl, fun w' hS => by (go_simp)⟩) hHeld ?_
                  (try simp only [Act.put, List.setIfInBounds_toArray, List.set_cons_zero, List.set_cons_succ])
                  refine vtake (i := 9) (v := (.bool true)) 57 rfl (by kernel_rfl) (by kernel_rfl) (by kernel_rfl) (by kernel_rfl) (fun _ _ _ h => h) (.inl ⟨by kernel_rfl, fun w' hS => by (go_simp)⟩) hHeld ?_
                  (try simp only [Act.put, List.setIfInBounds_toArray, List.set_cons_zero, List.set_cons_succ])
                  refine wpAnyH_done (by kernel_rfl) ?_ _
                  clear hHeld
                  have d0 := X11.own.at_ 0 _ rfl
                  have d1 := X11.own.at_ 1 _ rfl
                  have d2 := X11.own.at_ 2 _ rfl
                  have d3 := X11.own.at_ 3 _ rfl
                  simp only at d0 d1 d2 d3
                  have L13 := ((Grw.refl w11).alloc (.cells #[.int .u64 un, .int .u64 ue, .int .i64 ur, .int .u64 um] 31)).below
                  have O13 := Lib.hid (own_below18 O12.out L13)
                  have B13 := Lib.hid (B12.out.trans (L13.mono B12.out.size))
                  have N13 := Lib.hid (vw_lst (VwB.new w11 ⟨un, ue, ur, um⟩))
                  have hbz := B13.out.size
                  clear L13
                  go_wp2_with (at_builtin; refine append_vw _ rfl (.tmp 58) (.tmp 60) rfl w.heap.size _ _ _ rfl O13.out (some ⟨w11.heap.size, 0, none⟩) 1 1 _ rfl (fun h => by cases h) N13.out (by omega) hbz ?_; intro v14 w14 h1 h2)
                  rw [← flat_append] at h1
                  have HB14 := Lib.hid (grown_below B13.out (Nat.le_refl _) O13.out h2)
                  have HO14 := Lib.hid (own_eq h1 (show X.length + 1 = (onceV (A ++ behindV (pe.take (q + 1)) N)).length by rw [← HXN.out]; simp) (congrArg (flat encV) HXN.out))
                  clear h1 h2 B13 O13 N13 O12 B12 d0 d1 d2 d3 X11
                  go_wp2
                  go_roundw
                  case rel => exact ⟨q + 1, by omega, by go_num, HB14.out, HO14.out⟩
                  case measure => simp [intOf]; omega
              · have hgi : ¬(N : Int) < (un : Int) := by omega
                have HY2 := Lib.hid (show behindV (pe.take (q + 1)) N = Y by rw [HY.out]; exact if_neg hgt)
                have HXN := Lib.hid (show X = onceV (A ++ behindV (pe.take (q + 1)) N) by rw [HY2.out]; exact HX.out)
                have X10 : VwB wr.drew vb ⟨un, ue, ur, um⟩ := HX7.out
                have B10 : Below w.heap.size w wr.drew := HB8.out.trans ((Grw.refl wr).drew.below.mono HB8.out.size)
                have O10 := own_below18 HO8.out (Grw.refl wr).drew.below
                refine wp_region_held_drew (S := fun w' => VwB w' vb ⟨un, ue, ur, um⟩) (by kernel_rfl) X10 (fun hHeld => ?_)
                clear HX7 HB8 HO8
                generalize wr.drew = w10 at *
                refine vtake (i := 0) (v := (.pointer (some ⟨vb, 0, none⟩))) 48 rfl (by kernel_rfl) (by kernel_rfl) (by kernel_rfl) (by kernel_rfl) (fun _ _ _ h => h) (.inl ⟨by kernel_rfl, fun w' hS => by (go_simp)⟩) hHeld ?_
                (try simp only [Act.put, List.setIfInBounds_toArray, List.set_cons_zero, List.set_cons_succ])
                refine vtake (i := 1) (v := (.int .u64 (un : Int))) 49 rfl (by kernel_rfl) (by kernel_rfl) (by kernel_rfl) (by kernel_rfl) (fun _ _ _ h => h) (.inl ⟨by kernel_rfl, fun w' hS => by (have d0 := (VwB.own hS).at_ 0 _ rfl; simp only at d0; go_simp)⟩) hHeld ?_
                (try simp only [Act.put, List.setIfInBounds_toArray, List.set_cons_zero, List.set_cons_succ])
                refine vtake (i := 2) (v := (.slice (some ⟨b, o, none⟩) n c)) 50 rfl (by kernel_rfl) (by kernel_rfl) (by kernel_rfl) (by kernel_rfl) (fun _ _ _ h => h) (.inl ⟨by kernel_rfl, fun w' hS => by (go_simp)⟩) hHeld ?_
                (try simp only [Act.put, List.setIfInBounds_toArray, List.set_cons_zero, List.set_cons_succ])
                refine wpAnyH_ready (rs := [3]) (by kernel_rfl) (by simp) (AllReadyH.cons rfl (fun K hK => ?_) AllReadyH.nil)
                rw [if_pos (by kernel_rfl)]
                go_simp
                refine (PL.out _ B10).mono ?_
                rintro e w11 ⟨rfl, B11⟩
                have X11 := X10.later B11
                have B12 := Lib.hid (B10.trans (B11.mono B10.size))
                have O12 := Lib.hid (own_below18 O10 B11)
                refine hK.out _ _ X11 (fun hHeld => ?_)
                clear hK K B11 B10 O10 X10
                (try simp only [Act.put, List.setIfInBounds_toArray, List.set_cons_zero, List.set_cons_succ])
                refine vtake (i := 4) (v := (.int .u64 (N : Int))) 52 rfl (by kernel_rfl) (by kernel_rfl) (by kernel_rfl) (by kernel_rfl) (fun _ _ _ h => h) (.inl ⟨by kernel_rfl, fun w' hS => by (have hfd := field_n N te tr tm; go_simp)⟩) hHeld ?_
                (try simp only [Act.put, List.setIfInBounds_toArray, List.set_cons_zero, List.set_cons_succ])
                refine vtake (i := 5) (v := (.bool false)) 53 rfl (by kernel_rfl) (by kernel_rfl) (by kernel_rfl) (by kernel_rfl) (fun _ _ _ h => h) (.inl ⟨by kernel_rfl, fun w' hS => by (go_simp)⟩) hHeld ?_
                (try simp only [Act.put, List.setIfInBounds_toArray, List.set_cons_zero, List.set_cons_succ])
                refine vtake (i := 6) (v := (.bool false)) 54 rfl (by kernel_rfl) (by kernel_rfl) (by kernel_rfl) (by kernel_rfl) (fun _ _ _ h => h) (.inl ⟨by kernel_rfl, fun w' hS => by (go_simp)⟩) hHeld ?_
                (try simp only [Act.put, List.setIfInBounds_toArray, List.set_cons_zero, List.set_cons_succ])
                refine vtake (i := 7) (v := undef) 55 rfl (by kernel_rfl) (by kernel_rfl) (by kernel_rfl) (by kernel_rfl) (fun _ _ _ h => h) (.inr ⟨by kernel_rfl, rfl⟩) hHeld ?_
                (try simp only [Act.put, List.setIfInBounds_toArray, List.set_cons_zero, List.set_cons_succ])
                refine vtake (i := 8) (v := undef) 56 rfl (by kernel_rfl) (by kernel_rfl) (by kernel_rfl) (by kernel_rfl) (fun _ _ _ h => h) (.inr ⟨by kernel_rfl, rfl⟩) hHeld ?_
                (try simp only [Act.put, List.setIfInBounds_toArray, List.set_cons_zero, List.set_cons_succ])
                refine vtake (i := 9) (v := (.bool false)) 57 rfl (by kernel_rfl) (by kernel_rfl) (by kernel_rfl) (by kernel_rfl) (fun _ _ _ h => h) (.inl ⟨by kernel_rfl, fun w' hS => by (go_simp)⟩) hHeld ?_
                (try simp only [Act.put, List.setIfInBounds_toArray, List.set_cons_zero, List.set_cons_succ])
                refine wpAnyH_done (by kernel_rfl) ?_ _
                clear hHeld
                have HO13 := Lib.hid (own_eq O12.out (congrArg List.length HXN.out) (congrArg (flat encV) HXN.out))
                clear O12
                go_wp2
                go_roundw
                case rel => exact ⟨q + 1, by omega, by go_num, B12.out, HO13.out⟩
                case measure => simp [intOf]; omega
        · obtain rfl : pk = q := by omega
          have HF := Lib.hid (show onceV (A ++ behindV (pe.take pk) N) = onceV (allP (psL (l.take (k + 1))) N) by rw [HA.out, List.take_of_length_le (by rw [hlen]; exact Nat.le_refl _)])
          have HO2 := Lib.hid (own_eq HO.out (congrArg List.length HF.out) (congrArg (flat encV) HF.out))
          clear HO
          go_wp2
          go_roundw
          case rel => exact ⟨k + 1, by omega, by go_num, HB.out, HO2.out⟩
          case measure => simp [intOf]; omega
    · obtain rfl : n = k := by omega
      have HF := Lib.hid (show onceV (allP (psL (l.take n)) N) = pendV (psL l) by rw [HPV.out, List.take_of_length_le (by rw [HLEN.out]; exact Nat.le_refl _)])
      have HO2 := Lib.hid (own_eq HO.out (congrArg List.length HF.out) (congrArg (flat encV) HF.out))
      clear HO
      go_wp2
      go_ret
      exact ⟨_, rfl, HO2.out, HB.out⟩
end Go.Proofs.Ytlaenabckpjikaa
