/- The walk of GatherWaits. (Written by wip/gen_gawaits.py.) -/
import Derived.Test.YtmaiphgmnammgaaDoorZGaLaws
set_option linter.unusedVariables false
set_option maxRecDepth 100000
set_option linter.unusedSimpArgs false
namespace Go.Proofs.YtmaiphgmnammgaaDoor
open Go.RowKit Go.Sort Go.Maps

set_option maxHeartbeats 8000000 in
theorem waits_core (M : Nat) (hM : M < 18446744073709551616) (so : Option Addr) (n c : Nat) (l : List GA) (w : World) (hl : Lst encGA 8 w so n l) (hok : ∀ a ∈ l, a.ok w) (hn : n ≤ 1759218604390) (hTab : Tab w) :
    Calls Tryd.prog 7 #[.int .u64 (M : Int), .slice so n c] w fun e w' => e = .returned (.bool true) ∧ Below w.heap.size w w' := by
  have PA := gawake w hTab
  have HL := Lib.hid hl
  have HOK := Lib.hid hok
  clear hl hok hTab
  go_enter Tryd.func7, Tryd.ntmps7
  go_wp2_with fail
  refine PA.mono ?_
  rintro e w1 ⟨rfl, B1⟩
  have PF := gfew (HL.out.below B1) hn c
  have HB1 := Lib.hid B1
  clear PA B1
  go_wp2_with fail
  refine PF.mono ?_
  rintro e w2 ⟨h2, B2⟩
  have HB2 := Lib.hid (HB1.out.trans (B2.mono HB1.out.size))
  clear PF B2 HB1
  rcases h2 with rfl | ⟨rfl, hn80⟩
  · go_wp2
    go_ret
    exact ⟨rfl, HB2.out⟩
  have PG := gnew 1 0 M w2 hM
  go_wp2_with fail
  refine PG.mono ?_
  rintro e w3 ⟨g, mb, rfl, hg, hg0, hm0, B3⟩
  have N3 : Hid (GtN w w3 g mb (newG 1 0 M)) := Lib.hid (by
    have hs := HB2.out.size
    exact ⟨hg, by omega, by omega, HB2.out.trans (B3.mono HB2.out.size)⟩)
  clear PG hg hg0 hm0 B3 HB2
  go_wp2_with fail
  go_loopw [6] (fun si wr => ∃ (i : Nat) (S : Gt), i ≤ n ∧ si = .int .i64 i ∧ Aside (GtN w wr g mb S) ∧ Aside (S.M = M)) (fun si _ => n - (intOf si).toNat)
  case atStart => exact ⟨0, _, Nat.zero_le _, rfl, N3.out, rfl⟩
  case round =>
    clear N3
    obtain ⟨i, S, hi, rfl, HN, HM⟩ := hrel
    by_cases hlt : i < n
    · obtain ⟨b, o, e, hr⟩ := HL.out.src (show 0 < n by omega)
      subst e
      obtain ⟨a, ha⟩ : ∃ a, l[i]? = some a := ⟨_, List.getElem?_eq_getElem (by rw [HL.out.size]; exact hlt)⟩
      have hrg := gam_range hr ha
      have HR := Lib.hid (show wr.rangeAt b (o + i * 8) (encGA a) from fun j u hj => cell_later HN.out.bel (hrg j u hj))
      have hao := HOK.out a (List.mem_of_getElem? ha)
      have hp := hao.p
      have L4 := ((Grw.refl wr).alloc (.cells (encGA a).toArray 40)).below
      have A4 := Lib.hid (AcB.new wr a)
      have N4 := Lib.hid (HN.out.later L4)
      have HX4 := Lib.hid ((hao.x.below HN.out.bel).below L4)
      clear hr ha hrg L4 HN hao
      obtain ⟨rd, p, f, oe, op, xa, xn, xc, ct, kn, kp⟩ := a
      unfold encGA at A4 N4 HX4
      simp only at A4 N4 HX4 hp
      go_upto_region 10 with (first | (refine load_gam rfl (.tmp 25) rfl b (o + i * 8) ⟨rd, p, ⟨f, oe, op, xa, xn, xc, ct, ⟨kn, kp⟩⟩⟩ rfl HR.out ?_) | fail)
      generalize (wr.alloc (.cells #[.bool rd, .int .i64 p, .int .i64 f, .int .u64 oe, .int .i64 op, .slice xa xn xc, .int .u64 kn, .int .i64 kp] 40)) = w4 at *
      generalize wr.heap.size = ab at *
      clear HR
      have PT := gtold N4.out.at_
      obtain ⟨tb, htb⟩ : ∃ tb, tb = toldG S := ⟨_, rfl⟩
      rw [← htb] at PT
      have HTB := Lib.hid htb
      clear htb
      go_wp2_with fail
      refine PT.mono ?_
      rintro e w5 ⟨rfl, B5⟩
      have A5 := Lib.hid (A4.out.below B5)
      have N5 := Lib.hid (N4.out.later B5)
      have HX5 := Lib.hid (HX4.out.below B5)
      clear PT B5 A4 N4 HX4
      have c0 : w5.cell? ⟨ab, 0, none⟩ = some (.bool rd) := A5.out.c0
      cases rd with
      | true =>
        have c1 : w5.cell? ⟨ab, 1, none⟩ = some (.int .i64 p) := A5.out.c1
        have PR := gready N5.out.at_ p hp
        go_wp2_with fail
        refine PR.mono ?_
        rintro e w6 ha
        have he := ha.1
        subst he
        have N6 := Lib.hid (N5.out.act ha)
        have A6 := Lib.hid (A5.out.kept (ha.2.2.block ab (Own.lt A5.out) (fun e => by
          rcases e with e | e
          · have h1 := N5.out.at_.blk.is
            rw [← e] at h1
            have := h1.symm.trans A5.out.own.is
            injection this with e1
            injection e1 with _ e2 _
            exact absurd e2 (by decide)
          · obtain ⟨es, cc, hm⟩ := N5.out.at_.map.is
            rw [← e] at hm
            have := hm.symm.trans A5.out.own.is
            injection this with e1
            cases e1)))
        have HM2 : Hid ((readyG S p).M = M) := Lib.hid (by unfold readyG; split <;> exact HM.out)
        have HT2 := Lib.hid (told_ready (S := S) p)
        have HGN := Lib.hid (ready_gone (S := S) p)
        obtain ⟨S2, hS2⟩ : ∃ S2, S2 = readyG S p := ⟨_, rfl⟩
        rw [← hS2] at N6 HM2 HT2 HGN
        clear hS2 PR ha A5 N5 HM c0 c1 HX5
        have c1 : w6.cell? ⟨ab, 1, none⟩ = some (.int .i64 p) := A6.out.c1
        have hal := Own.lt A6.out
        have v1 := fun n' os' => cell_form hal c1 n' os'
        have K0 := Lib.hid (show ∀ n' os', Calls Tryd.prog 16 #[.pointer (some ⟨g, 0, none⟩)] (grow (atD w6 n') os') fun e w'' => e = .returned (.bool (toldG S2)) ∧ Below (grow (atD w6 n') os').heap.size (grow (atD w6 n') os') w'' from fun n' os' => gtold (N6.out.in_ n' os'))
        cases tb with
        | true =>
          have HTT := Lib.hid (show toldG S2 = true by rw [HT2.out, ← HTB.out])
          have K1 : Hid (∀ n' os', Calls Tryd.prog 20 #[.pointer (some ⟨g, 0, none⟩)] (grow (atD w6 n') os') fun e w'' => e = .returned (.int .u64 (waitG S2 : Nat)) ∧ Below (grow (atD w6 n') os').heap.size (grow (atD w6 n') os') w'') := Lib.hid (fun n' os' => gwaits (N6.out.in_ n' os'))
          have K2 : Hid (∀ n' os', Calls Tryd.prog 28 #[.int .u64 (waitG S2 : Nat), .int .i64 p] (grow (atD w6 n') os') fun e w'' => e = .returned (.bool false) ∧ Below (grow (atD w6 n') os').heap.size (grow (atD w6 n') os') w'') := Lib.hid (fun n' os' => by
            have := has_any (waitG S2) p (grow (atD w6 n') os') (waitG_lt _) hp.1 hp.2
            rw [HGN.out HTB.out.symm] at this
            exact this.mono fun e w'' ⟨h1, h2⟩ => ⟨h1, by rw [← h2]; exact Below.refl _ _⟩)
          clear HT2 HGN HTB c1
          go_upto_region 13 with fail
          refine wp_region_quiet_below (by kernel_rfl) (by kernel_rfl) ?_
          repeat (quiet_step (first | (go_at_call 20; exact calls_below (K1.out _ _)) | (go_at_call 28; exact calls_below (K2.out _ _)) | (go_at_call 16; exact calls_below (K0.out _ _))))
          refine wpQuiet_nil ?_
          intro _ hw'
          obtain ⟨⟨nq, osq⟩, hw''⟩ := hw'
          subst hw''
          have NN := Lib.hid (N6.out.later (below_of_form w6 nq osq))
          clear K0 K1 K2 v1 N6 A6 hal
          generalize (grow (atD w6 nq) osq) = x0 at *
          have PW := gwaits NN.out.at_
          have hz := wait_done NN.out.at_.ok
          have hzl := waitG_lt S2
          have HIN := Lib.hid (wait_in (S := S2))
          rw [HM2.out] at HIN
          obtain ⟨z, hzz⟩ : ∃ z, z = waitG S2 := ⟨_, rfl⟩
          rw [← hzz] at PW hz hzl HIN
          obtain ⟨db, hdb⟩ : ∃ db, db = doneG S2 := ⟨_, rfl⟩
          rw [← hdb] at hz
          have HZZ := Lib.hid hzz
          have HDB := Lib.hid hdb
          clear hzz hdb
          have hbb : (db != db) = false := by cases db <;> rfl
          go_wp2_with fail
          refine PW.mono ?_
          rintro e x1 ⟨rfl, BX⟩
          have N7 := Lib.hid (NN.out.later BX)
          clear PW BX NN
          have PD := gdone N7.out.at_
          rw [← HDB.out] at PD
          go_wp2_with fail
          refine PD.mono ?_
          rintro e x2 ⟨rfl, BX⟩
          have N8 := Lib.hid (N7.out.later BX)
          clear PD BX N7
          have PW := gwaits N8.out.at_
          rw [← HZZ.out] at PW
          go_wp2_with fail
          refine PW.mono ?_
          rintro e x3 ⟨rfl, BX⟩
          have N9 := Lib.hid (N8.out.later BX)
          clear PW BX N8
          have PI := in_any z M x3 hzl hM
          rw [HIN.out] at PI
          go_wp2_with fail
          refine PI.mono ?_
          rintro e x4 ⟨rfl, rfl⟩
          clear PI HIN
          have PT := gtold N9.out.at_
          rw [HTT.out] at PT
          go_wp2_with fail
          refine PT.mono ?_
          rintro e x5 ⟨rfl, BX⟩
          have N10 := Lib.hid (N9.out.later BX)
          clear PT BX N9 hz hbb
          go_wp2
          go_roundw
          case rel => exact ⟨i + 1, S2, by omega, by go_num, N10.out, HM2.out⟩
          case measure => simp [intOf]; omega
        | false =>
          clear HT2 HGN HTB
          go_upto_region 13 with fail
          have K1 := Lib.hid (True.intro)
          have K2 := Lib.hid (True.intro)
          refine wp_region_quiet_below (by kernel_rfl) (by kernel_rfl) ?_
          repeat (quiet_step (first | (go_at_call 16; exact calls_below (K0.out _ _))))
          refine wpQuiet_nil ?_
          intro _ hw'
          obtain ⟨⟨nq, osq⟩, hw''⟩ := hw'
          subst hw''
          have NN := Lib.hid (N6.out.later (below_of_form w6 nq osq))
          clear K0 K1 K2 v1 N6 A6 hal c1
          generalize (grow (atD w6 nq) osq) = x0 at *
          have PW := gwaits NN.out.at_
          have hz := wait_done NN.out.at_.ok
          have hzl := waitG_lt S2
          have HIN := Lib.hid (wait_in (S := S2))
          rw [HM2.out] at HIN
          obtain ⟨z, hzz⟩ : ∃ z, z = waitG S2 := ⟨_, rfl⟩
          rw [← hzz] at PW hz hzl HIN
          obtain ⟨db, hdb⟩ : ∃ db, db = doneG S2 := ⟨_, rfl⟩
          rw [← hdb] at hz
          have HZZ := Lib.hid hzz
          have HDB := Lib.hid hdb
          clear hzz hdb
          have hbb : (db != db) = false := by cases db <;> rfl
          go_wp2_with fail
          refine PW.mono ?_
          rintro e x1 ⟨rfl, BX⟩
          have N7 := Lib.hid (NN.out.later BX)
          clear PW BX NN
          have PD := gdone N7.out.at_
          rw [← HDB.out] at PD
          go_wp2_with fail
          refine PD.mono ?_
          rintro e x2 ⟨rfl, BX⟩
          have N8 := Lib.hid (N7.out.later BX)
          clear PD BX N7
          have PW := gwaits N8.out.at_
          rw [← HZZ.out] at PW
          go_wp2_with fail
          refine PW.mono ?_
          rintro e x3 ⟨rfl, BX⟩
          have N9 := Lib.hid (N8.out.later BX)
          clear PW BX N8
          have PI := in_any z M x3 hzl hM
          rw [HIN.out] at PI
          go_wp2_with fail
          refine PI.mono ?_
          rintro e x4 ⟨rfl, rfl⟩
          clear PI HIN
          clear hz hbb
          go_wp2
          go_roundw
          case rel => exact ⟨i + 1, S2, by omega, by go_num, N9.out, HM2.out⟩
          case measure => simp [intOf]; omega
      | false =>
        have HRX := Lib.hid (show w5.rangeAt ab 2 (encXg ⟨f, oe, op, xa, xn, xc, ct, ⟨kn, kp⟩⟩) from A5.out.rng)
        have PR := gadd N5.out.at_ ⟨f, oe, op, xa, xn, xc, ct, ⟨kn, kp⟩⟩ HX5.out
        unfold encXv encXg at PR
        simp only at PR
        have HFI : Hid (I64k f) := Lib.hid ⟨HX5.out.ok.w0, HX5.out.ok.w1⟩
        go_wp2_with (first | (refine load_xgm rfl (.tmp 44) rfl ab 2 ⟨f, oe, op, xa, xn, xc, ct, ⟨kn, kp⟩⟩ rfl HRX.out ?_) | fail)
        refine PR.mono ?_
        rintro e w6 ⟨y, hst, ha⟩
        have he := ha.1
        subst he
        have N6 := Lib.hid (N5.out.act ha)
        have A6 := Lib.hid (A5.out.kept (ha.2.2.block ab (Own.lt A5.out) (fun e => by
          rcases e with e | e
          · have h1 := N5.out.at_.blk.is
            rw [← e] at h1
            have := h1.symm.trans A5.out.own.is
            injection this with e1
            injection e1 with _ e2 _
            exact absurd e2 (by decide)
          · obtain ⟨es, cc, hm⟩ := N5.out.at_.map.is
            rw [← e] at hm
            have := hm.symm.trans A5.out.own.is
            injection this with e1
            cases e1)))
        have HM2 : Hid ((addG S y).M = M) := Lib.hid (by unfold addG; split <;> exact HM.out)
        have HT2 := Lib.hid (fun ht => told_add (S := S) N5.out.at_.ok y ht)
        have HGN := Lib.hid (add_gone (S := S) y)
        have hyw : y.w = f := stripX_w hst
        rw [hyw] at HGN
        obtain ⟨S2, hS2⟩ : ∃ S2, S2 = addG S y := ⟨_, rfl⟩
        rw [← hS2] at N6 HM2 HT2 HGN
        clear hS2 PR ha A5 N5 HM c0 HX5 HRX hst hyw
        have hf := HFI.out
        have c2 : w6.cell? ⟨ab, 2, none⟩ = some (.int .i64 f) := A6.out.c2
        have hal := Own.lt A6.out
        have v2 := fun n' os' => cell_form hal c2 n' os'
        have HTT := Lib.hid (show tb = true → toldG S2 = true from fun e => HT2.out (by rw [← HTB.out, e]))
        have K0 := Lib.hid (show ∀ n' os', Calls Tryd.prog 16 #[.pointer (some ⟨g, 0, none⟩)] (grow (atD w6 n') os') fun e w'' => e = .returned (.bool (toldG S2)) ∧ Below (grow (atD w6 n') os').heap.size (grow (atD w6 n') os') w'' from fun n' os' => gtold (N6.out.in_ n' os'))
        clear HT2 HTB
        cases ht : toldG S2 with
        | true =>
          rw [ht] at K0
          clear HGN
          go_upto_region 16 with fail
          have K1 := Lib.hid (True.intro)
          have K2 := Lib.hid (True.intro)
          refine wp_region_quiet_below (by kernel_rfl) (by kernel_rfl) ?_
          repeat (quiet_step (first | (go_at_call 16; exact calls_below (K0.out _ _))))
          refine wpQuiet_nil ?_
          intro _ hw'
          obtain ⟨⟨nq, osq⟩, hw''⟩ := hw'
          subst hw''
          have NN := Lib.hid (N6.out.later (below_of_form w6 nq osq))
          have HTT2 := Lib.hid ht
          clear K0 K1 K2 v2 N6 A6 hal c2 ht
          generalize (grow (atD w6 nq) osq) = x0 at *
          cases tb with
          | true =>
            replace HTT := HTT2
            have PW := gwaits NN.out.at_
            have hz := wait_done NN.out.at_.ok
            have hzl := waitG_lt S2
            have HIN := Lib.hid (wait_in (S := S2))
            rw [HM2.out] at HIN
            obtain ⟨z, hzz⟩ : ∃ z, z = waitG S2 := ⟨_, rfl⟩
            rw [← hzz] at PW hz hzl HIN
            obtain ⟨db, hdb⟩ : ∃ db, db = doneG S2 := ⟨_, rfl⟩
            rw [← hdb] at hz
            have HZZ := Lib.hid hzz
            have HDB := Lib.hid hdb
            clear hzz hdb
            have hbb : (db != db) = false := by cases db <;> rfl
            go_wp2_with fail
            refine PW.mono ?_
            rintro e x1 ⟨rfl, BX⟩
            have N7 := Lib.hid (NN.out.later BX)
            clear PW BX NN
            have PD := gdone N7.out.at_
            rw [← HDB.out] at PD
            go_wp2_with fail
            refine PD.mono ?_
            rintro e x2 ⟨rfl, BX⟩
            have N8 := Lib.hid (N7.out.later BX)
            clear PD BX N7
            have PW := gwaits N8.out.at_
            rw [← HZZ.out] at PW
            go_wp2_with fail
            refine PW.mono ?_
            rintro e x3 ⟨rfl, BX⟩
            have N9 := Lib.hid (N8.out.later BX)
            clear PW BX N8
            have PI := in_any z M x3 hzl hM
            rw [HIN.out] at PI
            go_wp2_with fail
            refine PI.mono ?_
            rintro e x4 ⟨rfl, rfl⟩
            clear PI HIN
            have PT := gtold N9.out.at_
            rw [HTT.out] at PT
            go_wp2_with fail
            refine PT.mono ?_
            rintro e x5 ⟨rfl, BX⟩
            have N10 := Lib.hid (N9.out.later BX)
            clear PT BX N9 hz hbb
            go_wp2
            go_roundw
            case rel => exact ⟨i + 1, S2, by omega, by go_num, N10.out, HM2.out⟩
            case measure => simp [intOf]; omega
          | false =>
            have PW := gwaits NN.out.at_
            have hz := wait_done NN.out.at_.ok
            have hzl := waitG_lt S2
            have HIN := Lib.hid (wait_in (S := S2))
            rw [HM2.out] at HIN
            obtain ⟨z, hzz⟩ : ∃ z, z = waitG S2 := ⟨_, rfl⟩
            rw [← hzz] at PW hz hzl HIN
            obtain ⟨db, hdb⟩ : ∃ db, db = doneG S2 := ⟨_, rfl⟩
            rw [← hdb] at hz
            have HZZ := Lib.hid hzz
            have HDB := Lib.hid hdb
            clear hzz hdb
            have hbb : (db != db) = false := by cases db <;> rfl
            go_wp2_with fail
            refine PW.mono ?_
            rintro e x1 ⟨rfl, BX⟩
            have N7 := Lib.hid (NN.out.later BX)
            clear PW BX NN
            have PD := gdone N7.out.at_
            rw [← HDB.out] at PD
            go_wp2_with fail
            refine PD.mono ?_
            rintro e x2 ⟨rfl, BX⟩
            have N8 := Lib.hid (N7.out.later BX)
            clear PD BX N7
            have PW := gwaits N8.out.at_
            rw [← HZZ.out] at PW
            go_wp2_with fail
            refine PW.mono ?_
            rintro e x3 ⟨rfl, BX⟩
            have N9 := Lib.hid (N8.out.later BX)
            clear PW BX N8
            have PI := in_any z M x3 hzl hM
            rw [HIN.out] at PI
            go_wp2_with fail
            refine PI.mono ?_
            rintro e x4 ⟨rfl, rfl⟩
            clear PI HIN
            clear hz hbb
            go_wp2
            go_roundw
            case rel => exact ⟨i + 1, S2, by omega, by go_num, N9.out, HM2.out⟩
            case measure => simp [intOf]; omega
        | false =>
          rw [ht] at K0
          have htb : tb = false := by
            cases tb with
            | false => rfl
            | true => rw [HTT.out rfl] at ht; cases ht
          subst htb
          have K1 : Hid (∀ n' os', Calls Tryd.prog 20 #[.pointer (some ⟨g, 0, none⟩)] (grow (atD w6 n') os') fun e w'' => e = .returned (.int .u64 (waitG S2 : Nat)) ∧ Below (grow (atD w6 n') os').heap.size (grow (atD w6 n') os') w'') := Lib.hid (fun n' os' => gwaits (N6.out.in_ n' os'))
          have K2 : Hid (∀ n' os', Calls Tryd.prog 28 #[.int .u64 (waitG S2 : Nat), .int .i64 f] (grow (atD w6 n') os') fun e w'' => e = .returned (.bool false) ∧ Below (grow (atD w6 n') os').heap.size (grow (atD w6 n') os') w'') := Lib.hid (fun n' os' => by
            have := has_any (waitG S2) f (grow (atD w6 n') os') (waitG_lt _) hf.1 hf.2
            rw [HGN.out ht] at this
            exact this.mono fun e w'' ⟨h1, h2⟩ => ⟨h1, by rw [← h2]; exact Below.refl _ _⟩)
          clear HGN ht
          go_upto_region 16 with fail
          refine wp_region_quiet_below (by kernel_rfl) (by kernel_rfl) ?_
          repeat (quiet_step (first | (go_at_call 20; exact calls_below (K1.out _ _)) | (go_at_call 28; exact calls_below (K2.out _ _)) | (go_at_call 16; exact calls_below (K0.out _ _))))
          refine wpQuiet_nil ?_
          intro _ hw'
          obtain ⟨⟨nq, osq⟩, hw''⟩ := hw'
          subst hw''
          have NN := Lib.hid (N6.out.later (below_of_form w6 nq osq))
          clear K0 K1 K2 v2 N6 A6 hal c2
          generalize (grow (atD w6 nq) osq) = x0 at *
          have PW := gwaits NN.out.at_
          have hz := wait_done NN.out.at_.ok
          have hzl := waitG_lt S2
          have HIN := Lib.hid (wait_in (S := S2))
          rw [HM2.out] at HIN
          obtain ⟨z, hzz⟩ : ∃ z, z = waitG S2 := ⟨_, rfl⟩
          rw [← hzz] at PW hz hzl HIN
          obtain ⟨db, hdb⟩ : ∃ db, db = doneG S2 := ⟨_, rfl⟩
          rw [← hdb] at hz
          have HZZ := Lib.hid hzz
          have HDB := Lib.hid hdb
          clear hzz hdb
          have hbb : (db != db) = false := by cases db <;> rfl
          go_wp2_with fail
          refine PW.mono ?_
          rintro e x1 ⟨rfl, BX⟩
          have N7 := Lib.hid (NN.out.later BX)
          clear PW BX NN
          have PD := gdone N7.out.at_
          rw [← HDB.out] at PD
          go_wp2_with fail
          refine PD.mono ?_
          rintro e x2 ⟨rfl, BX⟩
          have N8 := Lib.hid (N7.out.later BX)
          clear PD BX N7
          have PW := gwaits N8.out.at_
          rw [← HZZ.out] at PW
          go_wp2_with fail
          refine PW.mono ?_
          rintro e x3 ⟨rfl, BX⟩
          have N9 := Lib.hid (N8.out.later BX)
          clear PW BX N8
          have PI := in_any z M x3 hzl hM
          rw [HIN.out] at PI
          go_wp2_with fail
          refine PI.mono ?_
          rintro e x4 ⟨rfl, rfl⟩
          clear PI HIN
          clear hz hbb
          go_wp2
          go_roundw
          case rel => exact ⟨i + 1, S2, by omega, by go_num, N9.out, HM2.out⟩
          case measure => simp [intOf]; omega
    · obtain rfl : i = n := by omega
      have HB := Lib.hid HN.out.bel
      clear HN
      go_wp2
      go_ret
      exact ⟨rfl, HB.out⟩
theorem walk_GatherWaits {w : World} (M : Int) (wM : (Lit.int .u64 M).wf = true) (so : Option Addr) (n c : Nat) (l : List GA) (hl : Lst encGA 8 w so n l ∧ (∀ a ∈ l, a.ok w) ∧ n ≤ 1759218604390) (hTab : Tab w) :
    Calls Tryd.prog 7 #[.int .u64 M, .slice so n c] w fun e w' => e = .returned (.bool true) ∧ Below w.heap.size w w' := by
  have b1 := Go.bounds_u64 wM
  obtain ⟨M, rfl⟩ := Int.eq_ofNat_of_zero_le b1.1
  exact waits_core M (by omega) so n c l w hl.1 hl.2.1 hl.2.2 hTab
end Go.Proofs.YtmaiphgmnammgaaDoor
