/- VoteMeets: the walk. -/
import Derived.Test.YtlaenabckpjikaaVoFew
set_option linter.unusedVariables false
set_option maxRecDepth 100000
set_option linter.unusedSimpArgs false
namespace Go.Proofs.Ytlaenabckpjikaa
open Go.RowKit Go.Sort Go.Maps

set_option maxHeartbeats 4000000 in
theorem walk_VoteMeets {w : World} (ao : Option Addr) (n c : Nat) (l : List Rc) (h : RcL w ao n l ∧ (∀ m ∈ l, m.k ≤ 4398046511104) ∧ n ≤ 4398046511104) (a : Int) (ha : (Lit.int .u64 a).wf = true) (b : Int) (hb : (Lit.int .u64 b).wf = true) :
    Calls Try.prog 4 #[.slice ao n c, .int .u64 a, .int .u64 b] w fun e w' => e = .returned (.bool true) ∧ Below w.heap.size w w' := by
  obtain ⟨s, rfl, hs⟩ := nat_u64 ha
  obtain ⟨t, rfl, ht⟩ := nat_u64 hb
  have HL := Lib.hid h.1
  have HK := Lib.hid h.2.1
  clear h ha hb
  have PA := awake18 w
  go_enter Try.func4, Try.ntmps4
  go_wp2_with fail
  refine PA.mono ?_
  rintro e w1 ⟨rfl, B1⟩
  have PF := vfew (HL.out.below B1) c HK.out
  have HB1 := Lib.hid B1
  clear PA B1
  go_wp2_with fail
  refine PF.mono ?_
  rintro e w2 ⟨hor, rfl⟩
  clear PF
  rcases hor with rfl | ⟨rfl, hfew⟩
  · go_wp2
    go_ret
    exact ⟨rfl, HB1.out⟩
  have hn : n ≤ 100000 := by omega
  have hsum : sumP (psL l) ≤ 99999 := by omega
  have PM := vmay (HL.out.below HB1.out) c hn hsum s hs
  cases hms : mayV s (psL l) with
  | false =>
    rw [hms] at PM
    go_wp2_with fail
    refine PM.mono ?_
    rintro e w3 ⟨rfl, B3⟩
    have HB3 := Lib.hid (HB1.out.trans (B3.mono HB1.out.size))
    clear PM B3
    go_wp2
    go_ret
    exact ⟨rfl, HB3.out⟩
  | true =>
    rw [hms] at PM
    go_wp2_with fail
    refine PM.mono ?_
    rintro e w3 ⟨rfl, B3⟩
    have HB3 := Lib.hid (HB1.out.trans (B3.mono HB1.out.size))
    have P4 := any_any s t w3 hs ht
    clear PM B3
    go_wp2_with fail
    refine P4.mono ?_
    rintro e w4 ⟨rfl, rfl⟩
    have P5 := vmay (HL.out.below HB3.out) c hn hsum (any s t) (any_lt s t)
    rw [mayV_more s t _ hms] at P5
    clear P4
    go_wp2_with fail
    refine P5.mono ?_
    rintro e w5 ⟨rfl, B5⟩
    have HB5 := Lib.hid (HB3.out.trans (B5.mono HB3.out.size))
    have P6 := vmay (HL.out.below HB5.out) c hn hsum t ht
    clear P5 B5
    cases hmt : mayV t (psL l) with
    | false =>
      rw [hmt] at P6
      go_wp2_with fail
      refine P6.mono ?_
      rintro e w6 ⟨rfl, B6⟩
      have HB6 := Lib.hid (HB5.out.trans (B6.mono HB5.out.size))
      clear P6 B6
      go_wp2
      go_ret
      exact ⟨rfl, HB6.out⟩
    | true =>
      rw [hmt] at P6
      have HS := Lib.hid ((mayV_iff _ _).1 hms)
      have HT := Lib.hid ((mayV_iff _ _).1 hmt)
      clear hms hmt
      go_wp2_with fail
      refine P6.mono ?_
      rintro e w6 ⟨rfl, B6⟩
      have HB6 := Lib.hid (HB5.out.trans (B6.mono HB5.out.size))
      have P7 := both_any s t w6 hs ht
      clear P6 B6
      go_wp2_with fail
      refine P7.mono ?_
      rintro e w7 ⟨rfl, rfl⟩
      have P8 := vpend (HL.out.below HB6.out) c hn (by omega)
      have HPO := Lib.hid (pendV_ok _ HL.out.ok)
      have HLO := Lib.hid (lastR_ok _ HL.out.ok)
      have HPL := pendV_le (psL l)
      obtain ⟨P, hP⟩ : ∃ P, P = pendV (psL l) := ⟨_, rfl⟩
      rw [← hP] at P8 HS HT HPO HPL
      clear P7 hP
      obtain ⟨u, hu⟩ : ∃ u, u = both s t := ⟨_, rfl⟩
      have hu64 : u < 18446744073709551616 := by rw [hu]; exact both_lt s t
      have HME := Lib.hid (show ∀ m : Nat, most s m = true → most t m = true → both u m ≠ 0 from fun m h1 h2 => by rw [hu]; exact meet_pos s t m h1 h2)
      try rw [← hu]
      clear hu
      go_wp2_with fail
      refine P8.mono ?_
      rintro e w8 ⟨v8, rfl, O8, B8⟩
      obtain ⟨a8, c8, rfl⟩ := own_form' O8
      have HP8 := Lib.hid (own_vws O8 rfl HPO.out)
      have HB8 := Lib.hid (HB6.out.trans (B8.mono HB6.out.size))
      clear P8 O8 B8
      go_wp2
      go_loopw [11] (fun si wr => ∃ k : Nat, k ≤ P.length ∧ si = .int .i64 k ∧ Aside (Below w8.heap.size w8 wr)) (fun si _ => P.length - (intOf si).toNat)
      case atStart => exact ⟨0, Nat.zero_le _, rfl, Below.refl _ _⟩
      case round =>
        obtain ⟨k, hk, rfl, HB⟩ := hrel
        by_cases hlt : k < P.length
        · obtain ⟨b, o, v, rfl, hv, hr, hok⟩ := (HP8.out.below HB.out).row hlt
          have c3 : wr.cell? ⟨b, o + k * 4 + 2 + 1, none⟩ = some (.int .u64 (v.m : Int)) := hr 3 _ rfl
          have c3' : wr.cell? ⟨b, o + k * 4 + 3, none⟩ = some (.int .u64 (v.m : Int)) := hr 3 _ rfl
          have hvm := hok.m
          have hne := HME.out v.m (HS.out.2 v (List.mem_of_getElem? hv)) (HT.out.2 v (List.mem_of_getElem? hv))
          obtain ⟨vm, hvm'⟩ : ∃ vm, vm = v.m := ⟨_, rfl⟩
          rw [← hvm'] at c3 c3' hvm hne
          have PB := both_any u vm wr hu64 hvm
          obtain ⟨q, hq⟩ : ∃ q, q = both u vm := ⟨_, rfl⟩
          rw [← hq] at PB hne
          have hq0 : ¬(q : Int) = 0 := by omega
          clear hr hv hok hvm' hne
          go_wp2_with fail
          refine PB.mono ?_
          rintro e w9 ⟨rfl, rfl⟩
          clear PB
          have hd : ((q : Int) == 0) = false := by simpa using hq0
          go_wp2
          go_roundw
          case rel => exact ⟨k + 1, by omega, by go_num, HB.out⟩
          case measure => simp [intOf]; omega
        · obtain rfl : k = P.length := by omega
          have HBE := Lib.hid (HB8.out.trans (HB.out.mono HB8.out.size))
          have PL := vlast (HL.out.below HBE.out) c hn
          have hlm := HLO.out.m
          have hne := HME.out _ HS.out.1 HT.out.1
          obtain ⟨⟨tn, te, tr, tm⟩, hT⟩ : ∃ T, T = lastR (psL l) := ⟨_, rfl⟩
          rw [← hT] at PL hlm hne
          unfold valV encV at PL
          simp only at hlm hne
          have hfd := field_m tn te tr tm
          clear hT
          go_wp2_with fail
          refine PL.mono ?_
          rintro e w9 ⟨rfl, B9⟩
          have HB9 := Lib.hid (HBE.out.trans (B9.mono HBE.out.size))
          have PB := both_any u tm w9 hu64 hlm
          obtain ⟨q, hq⟩ : ∃ q, q = both u tm := ⟨_, rfl⟩
          rw [← hq] at PB hne
          have hq0 : ¬(q : Int) = 0 := by omega
          clear PL B9
          go_wp2_with fail
          refine PB.mono ?_
          rintro e w10 ⟨rfl, rfl⟩
          clear PB
          have hd : ((q : Int) != 0) = true := by simpa using hq0
          go_wp2
          go_ret
          refine ⟨?_, HB9.out⟩
          show Ending.returned (.bool ((((both u tm : Nat)) : Int) != 0)) = _
          rw [← hq, hd]
end Go.Proofs.Ytlaenabckpjikaa
