/- Layer 18: the document's May. -/
import Derived.Test.YtlaenabckpjikaaVoRef3
set_option linter.unusedVariables false
set_option maxRecDepth 100000
set_option linter.unusedSimpArgs false
namespace Go.Proofs.Ytlaenabckpjikaa
open Go.RowKit Go.Sort Go.Maps

theorem all_next {α : Type} (p : α → Bool) (l : List α) (k : Nat) (x : α) (hx : l[k]? = some x) : (l.take (k + 1)).all p = ((l.take k).all p && p x) := by
  rw [take_snoc hx, List.all_append]
  simp
set_option maxHeartbeats 4000000 in
theorem rmay {w : World} {ao : Option Addr} {n : Nat} {l : List Rc} (h : RcL w ao n l) (c : Nat) (hn : n ≤ 100000) (hs : sumP (psL l) ≤ 100000) (s : Nat) (hs64 : s < 18446744073709551616) :
    Calls Try.prog 17 #[.int .u64 (s : Int), .slice ao n c] w fun e w' => e = .returned (.bool (mayV s (psL l))) ∧ Below w.heap.size w w' := by
  have HL := Lib.hid h
  have HLEN := Lib.hid h.at_.size
  have HPO := Lib.hid (pendV_ok _ h.ok)
  have HPL := pendV_le (psL l)
  have HLM := (lastR_ok _ h.ok).m
  have PP := Lib.hid (show ∀ wx, Below w.heap.size w wx → _ from fun wx hb => rpend (h.below hb) c hn hs)
  have PL := rlast h c hn
  have HMV := Lib.hid (show mayV s (psL l) = (pendV (psL l) ++ [lastR (psL l)]).all (fun v => most s v.m) from rfl)
  have HNN := Lib.hid (show n = 0 → mayV s (psL l) = false from fun e => by
    have : l = [] := List.eq_nil_of_length_eq_zero (by rw [h.at_.size, e])
    rw [this]; exact mayV_nil s)
  clear h
  obtain ⟨P, hP⟩ : ∃ P, P = pendV (psL l) := ⟨_, rfl⟩
  obtain ⟨⟨tn, te, tr, tm⟩, hT⟩ : ∃ T, T = lastR (psL l) := ⟨_, rfl⟩
  rw [← hP] at PP HPO HPL HMV
  rw [← hT] at PL HLM HMV
  clear hP hT
  simp only at HLM
  unfold valV encV at PL
  have hfd := field_m tn te tr tm
  obtain ⟨b0, hb0⟩ : ∃ b0, b0 = (decide (0 < n) && most s tm) := ⟨_, rfl⟩
  have HB0 := Lib.hid hb0
  have HFIN := Lib.hid (show (b0 && P.all (fun v => most s v.m)) = mayV s (psL l) by
    by_cases h0 : n = 0
    · rw [HNN.out h0, hb0, h0]; rfl
    · rw [HMV.out, hb0, decide_eq_true (by omega : 0 < n), List.all_append]
      simp [Bool.and_comm])
  clear hb0
  go_enter Try.func17, Try.ntmps17
  go_upto_region 1 with fail
  go_cut [5] from 8 to 17 (fun s5 wx => s5 = .bool b0 ∧ Below w.heap.size w wx)
  case first =>
    by_cases h0 : n = 0
    · subst h0
      have HB1 := Lib.hid (show b0 = false by rw [HB0.out]; rfl)
      have W0 := Lib.hid (Below.refl w.heap.size w)
      go_wp2
      go_meet
      exact ⟨by rw [HB1.out], W0.out⟩
    · have h1 : (0 : Int) < (n : Int) := by omega
      have h1n : 0 < n := by omega
      have HB1 := Lib.hid (show b0 = most s tm by rw [HB0.out, decide_eq_true h1n]; rfl)
      go_wp2_with fail
      refine PL.mono ?_
      rintro e w1 ⟨rfl, B1⟩
      have PM := refMost_any s tm w1 hs64 HLM
      rw [← HB1.out] at PM
      have HBB := Lib.hid B1
      clear PL B1
      go_wp2_with fail
      refine PM.mono ?_
      rintro e w2 ⟨rfl, B2⟩
      have HB2 := Lib.hid (HBB.out.trans (B2.mono HBB.out.size))
      clear PM B2
      go_wp2
      go_meet
      exact ⟨rfl, HB2.out⟩
  case rest =>
    obtain ⟨rfl, hbw⟩ := hcut
    have HB := Lib.hid hbw
    have P2 := PP.out wc hbw
    clear hbw PP PL hfd
    go_wp2_with fail
    refine P2.mono ?_
    rintro e w2 ⟨v2, rfl, O2, B2⟩
    obtain ⟨a2, c2, rfl⟩ := own_form' O2
    have HZ := Lib.hid (own_vws O2 rfl HPO.out)
    have HB2 := Lib.hid (HB.out.trans (B2.mono HB.out.size))
    clear P2 O2 B2
    have W2 := Lib.hid (Below.refl w2.heap.size w2)
    go_wp2
    go_loopw [5, 7] (fun so si wr => ∃ k : Nat, k ≤ P.length ∧ so = .bool (b0 && (P.take k).all (fun v => most s v.m)) ∧ si = .int .i64 k ∧ Aside (Below w2.heap.size w2 wr)) (fun _ si _ => P.length - (intOf si).toNat)
    case atStart => exact ⟨0, Nat.zero_le _, by rw [List.take_zero]; simp, rfl, W2.out⟩
    case round =>
      obtain ⟨k, hk, rfl, rfl, HBr⟩ := hrel
      by_cases hlt : k < P.length
      · obtain ⟨b, o, v, rfl, hv, hr, hok⟩ := (HZ.out.below HBr.out).row hlt
        have c3 : wr.cell? ⟨b, o + k * 4 + 3, none⟩ = some (.int .u64 (v.m : Int)) := hr 3 _ rfl
        have hvm := hok.m
        have HN := Lib.hid (all_next (fun v => most s v.m) P k v hv)
        obtain ⟨bb, hbb⟩ : ∃ bb, bb = (b0 && (P.take k).all (fun v => most s v.m)) := ⟨_, rfl⟩
        have HBB := Lib.hid hbb
        rw [← hbb]
        obtain ⟨vm, hvm'⟩ : ∃ vm, vm = v.m := ⟨_, rfl⟩
        have HVM := Lib.hid hvm'
        rw [← hvm'] at c3 hvm
        clear hr hv hok hbb hvm'
        cases bb with
        | false =>
          have HF := Lib.hid (show (b0 && (P.take (k + 1)).all (fun v => most s v.m)) = false by rw [HN.out, ← Bool.and_assoc, ← HBB.out]; rfl)
          go_wp2
          go_roundw
          case rel => exact ⟨k + 1, by omega, by rw [HF.out], by go_num, HBr.out⟩
          case measure => simp [intOf]; omega
        | true =>
          have HF := Lib.hid (show (b0 && (P.take (k + 1)).all (fun v => most s v.m)) = most s vm by rw [HN.out, ← Bool.and_assoc, ← HBB.out, HVM.out]; rfl)
          have PM := refMost_any s vm wr hs64 hvm
          go_wp2_with fail
          refine PM.mono ?_
          rintro e w3 ⟨rfl, B3⟩
          have HB3 := Lib.hid (HBr.out.trans (B3.mono HBr.out.size))
          clear PM B3 c3
          go_wp2
          go_roundw
          case rel => exact ⟨k + 1, by omega, by rw [HF.out], by go_num, HB3.out⟩
          case measure => simp [intOf]; omega
      · obtain rfl : k = P.length := by omega
        have HF := Lib.hid (show (b0 && (P.take P.length).all (fun v => most s v.m)) = mayV s (psL l) by rw [List.take_of_length_le (Nat.le_refl _)]; exact HFIN.out)
        have HB4 := Lib.hid (HB2.out.trans (HBr.out.mono HB2.out.size))
        rw [HF.out]
        clear HF HFIN HB0
        go_wp2
        go_ret
        exact ⟨rfl, HB4.out⟩
end Go.Proofs.Ytlaenabckpjikaa
