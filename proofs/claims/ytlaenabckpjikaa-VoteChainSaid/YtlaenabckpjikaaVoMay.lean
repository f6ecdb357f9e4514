/- Layer 18: May. -/
import Derived.Test.YtlaenabckpjikaaVoPend
set_option linter.unusedVariables false
set_option maxRecDepth 100000
set_option linter.unusedSimpArgs false
namespace Go.Proofs.Ytlaenabckpjikaa
open Go.RowKit Go.Sort Go.Maps

theorem all_take {α : Type} (p : α → Bool) (l : List α) (k : Nat) (x : α) (hx : l[k]? = some x) (h : ∀ y ∈ l.take k, p y = true) (hp : p x = true) : ∀ y ∈ l.take (k + 1), p y = true := by
  rw [take_snoc hx]
  intro y hy
  rcases List.mem_append.1 hy with hy | hy
  · exact h y hy
  · rw [List.mem_singleton.1 hy]; exact hp
set_option maxHeartbeats 4000000 in
theorem vmay {w : World} {ao : Option Addr} {n : Nat} {l : List Rc} (h : RcL w ao n l) (c : Nat) (hn : n ≤ 100000) (hs : sumP (psL l) ≤ 99999) (s : Nat) (hs64 : s < 18446744073709551616) :
    Calls Try.prog 16 #[.int .u64 (s : Int), .slice ao n c] w fun e w' => e = .returned (.bool (mayV s (psL l))) ∧ Below w.heap.size w w' := by
  have PP := vpend h c hn (by omega)
  have HL := Lib.hid h
  have HPO := Lib.hid (pendV_ok _ h.ok)
  have HLO := Lib.hid (lastR_ok _ h.ok)
  have HPL := pendV_le (psL l)
  have HMV := Lib.hid (show mayV s (psL l) = (pendV (psL l) ++ [lastR (psL l)]).all (fun v => most s v.m) from rfl)
  clear h
  obtain ⟨P, hP⟩ : ∃ P, P = pendV (psL l) := ⟨_, rfl⟩
  obtain ⟨⟨tn, te, tr, tm⟩, hT⟩ : ∃ T, T = lastR (psL l) := ⟨_, rfl⟩
  rw [← hP] at PP HPO HPL HMV
  rw [← hT] at HLO HMV
  have HTE := Lib.hid hT
  clear hP hT
  go_enter Try.func16, Try.ntmps16
  go_wp2_with fail
  refine PP.mono ?_
  rintro e w1 ⟨v1, rfl, O1, B1⟩
  have PL := vlast (HL.out.below B1) c hn
  rw [← HTE.out] at PL
  unfold valV encV at PL
  clear PP
  go_wp2_with fail
  refine PL.mono ?_
  rintro e w2 ⟨rfl, B2⟩
  have O2 := own_below18 O1 B2
  have HB2 := B1.trans (B2.mono B1.size)
  have L3 := ((Grw.refl w2).alloc (.cells #[.int .u64 tn, .int .u64 te, .int .i64 tr, .int .u64 tm] 31)).below
  have O3 := Lib.hid (own_below18 O2 L3)
  have HB3 := Lib.hid (HB2.trans (L3.mono HB2.size))
  have N3 := Lib.hid (vw_lst (VwB.new w2 ⟨tn, te, tr, tm⟩))
  clear PL O1 O2 B1 B2 HB2 L3
  have hb3 := HB3.out.size
  go_wp2_with (at_builtin; refine append_vw _ rfl (.tmp 8) (.tmp 11) rfl w.heap.size _ _ _ rfl O3.out (some ⟨w2.heap.size, 0, none⟩) 1 1 _ rfl (fun h => by cases h) N3.out (by omega) hb3 ?_; intro v9 w9 h1 h2; obtain ⟨a9, c9, rfl⟩ := own_form' h1)
  rw [← flat_append] at h1
  have HB9 := Lib.hid (grown_below HB3.out (Nat.le_refl _) O3.out h2)
  obtain ⟨Z, hZ⟩ : ∃ Z, Z = P ++ [(⟨tn, te, tr, tm⟩ : Vw)] := ⟨_, rfl⟩
  have hzl : Z.length = P.length + 1 := by rw [hZ]; simp
  rw [← hZ] at h1 HMV
  have HZ := Lib.hid (show VwL w9 a9 (P.length + 1) Z from own_vws h1 hzl (fun v hv => by
    rw [hZ] at hv
    rcases List.mem_append.1 hv with hv | hv
    · exact HPO.out v hv
    · rw [List.mem_singleton.1 hv]; exact HLO.out))
  have HZL := Lib.hid hzl
  clear hzl
  clear h1 h2 HB3 O3 N3 hb3 hZ HPO HLO HTE
  go_wp2
  go_loopw [14] (fun si wr => ∃ k : Nat, k ≤ (P.length + 1) ∧ si = .int .i64 k ∧ Aside (Below w9.heap.size w9 wr) ∧ Aside (∀ y ∈ Z.take k, most s y.m = true)) (fun si _ => (P.length + 1) - (intOf si).toNat)
  case atStart => exact ⟨0, Nat.zero_le _, rfl, Below.refl _ _, fun y hy => by cases hy⟩
  case round =>
    obtain ⟨k, hk, rfl, HB, HA⟩ := hrel
    by_cases hlt : k < (P.length + 1)
    · obtain ⟨b, o, v, rfl, hv, hr, hok⟩ := (HZ.out.below HB.out).row hlt
      have HR := Lib.hid hr
      have HK := hok.m
      have B4 := ((Grw.refl wr).alloc (.cells #[.int .u64 (v.n : Int), .int .u64 (v.e : Int), .int .i64 v.r, .int .u64 (v.m : Int)] 31)).below
      have X4 := Lib.hid (VwB.new wr v)
      have HB4 := Lib.hid (HB.out.trans (B4.mono HB.out.size))
      have HV := Lib.hid hv
      clear hr B4 HB hok hv
      obtain ⟨vn, ve, vr, vm⟩ := v
      unfold encV at HR
      simp only at HK
      go_upto_region 4 with (first | (refine load_vwm rfl (.tmp 16) rfl b (o + k * 4) ⟨vn, ve, vr, vm⟩ rfl HR.out ?_) | fail)
      generalize wr.alloc (.cells #[.int .u64 vn, .int .u64 ve, .int .i64 vr, .int .u64 vm] 31) = w4 at *
      generalize wr.heap.size = mb at *
      clear HR
      have c3 : w4.cell? ⟨mb, 3, none⟩ = some (.int .u64 vm) := X4.out.own.at_ 3 _ rfl
      have PM := most_any s vm w4 hs64 HK
      obtain ⟨q, hq⟩ : ∃ q, q = most s vm := ⟨_, rfl⟩
      rw [← hq] at PM
      have HQ := Lib.hid hq
      clear hq
      go_wp2_with fail
      refine PM.mono ?_
      rintro e w5 ⟨rfl, rfl⟩
      clear PM c3
      cases q with
      | true =>
        have HA2 := Lib.hid (all_take _ _ _ _ HV.out HA.out HQ.out.symm)
        clear HA HQ HV
        go_wp2
        go_roundw
        case rel => exact ⟨k + 1, by omega, by go_num, HB4.out, HA2.out⟩
        case measure => simp [intOf]; omega
      | false =>
        have HF := Lib.hid (show mayV s (psL l) = false by
          rw [HMV.out]
          refine Bool.eq_false_iff.2 fun e => ?_
          have := List.all_eq_true.1 e _ (List.mem_of_getElem? HV.out)
          rw [← HQ.out] at this
          cases this)
        have HB9' := Lib.hid (HB9.out.trans (HB4.out.mono HB9.out.size))
        clear HA HQ HV HMV
        go_wp2
        go_ret
        exact ⟨by rw [HF.out]; rfl, HB9'.out⟩
    · obtain rfl : k = P.length + 1 := by omega
      have HF := Lib.hid (show mayV s (psL l) = true by
        rw [HMV.out]
        have := HA.out
        rw [List.take_of_length_le (by rw [HZL.out]; exact Nat.le_refl _)] at this
        exact List.all_eq_true.2 this)
      have HB9' := Lib.hid (HB9.out.trans (HB.out.mono HB9.out.size))
      clear HA HMV
      go_wp2
      go_ret
      exact ⟨by rw [HF.out]; rfl, HB9'.out⟩
end Go.Proofs.Ytlaenabckpjikaa
