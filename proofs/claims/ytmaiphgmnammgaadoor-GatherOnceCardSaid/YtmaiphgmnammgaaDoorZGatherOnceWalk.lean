/- The walk of GatherOnce. (Written by wip/gen_gaonce.py.) -/
import Derived.Test.YtmaiphgmnammgaaDoorZGaOnce
import Derived.Test.YtmaiphgmnammgaaDoorZGaLaws
set_option linter.unusedVariables false
set_option maxRecDepth 100000
set_option linter.unusedSimpArgs false
namespace Go.Proofs.YtmaiphgmnammgaaDoor
open Go.RowKit Go.Sort Go.Maps

theorem fi_told {M m : Nat} {S : Gt} {F : List Xg} {t d : Int} (h : OnR M S F t d) (hl : F.length = m) : ((m : Int) == (card M : Int)) = toldG S := by
  unfold toldG
  rw [← h.n, hl, h.m]
  by_cases e : m = card M
  · rw [e]; simp
  · rw [decide_eq_false e]; simp; omega
theorem fi_done {M : Nat} {S : Gt} {F : List Xg} {t d : Int} (h : OnR M S F t d) : ((S.Y : Int) == (M : Int)) = doneG S := by
  unfold doneG
  rw [h.m]
  by_cases e : S.Y = M
  · rw [e]; simp
  · rw [decide_eq_false e]; simp; omega
set_option maxHeartbeats 8000000 in
theorem once_core (M : Nat) (hM : M < 18446744073709551616) (so : Option Addr) (n c : Nat) (l : List GA) (w : World) (hl : Lst encGA 8 w so n l) (hok : ∀ a ∈ l, a.ok w) (hn : n ≤ 1759218604390) (hTab : Tab w) :
    Calls Tryd.prog 5 #[.int .u64 (M : Int), .slice so n c] w fun e w' => e = .returned (.bool true) ∧ Below w.heap.size w w' := by
  have PA := gawake w hTab
  have HL := Lib.hid hl
  have HOK := Lib.hid hok
  clear hl hok hTab
  go_enter Tryd.func5, Tryd.ntmps5
  go_wp2_with fail
  refine PA.mono ?_
  rintro e w1 ⟨rfl, B1⟩
  have PF := gfew (HL.out.below B1) hn c
  have HB1 := Lib.hid B1
  clear PA B1
  go_wp2_with fail
  refine PF.mono ?_
  rintro e w2 ⟨h2, B2⟩
  have HB2 := Lib.hid (HB1.out.trans (B2.mono HB1.out.size))
  clear PF B2 HB1
  rcases h2 with rfl | ⟨rfl, hn80⟩
  · go_wp2
    go_ret
    exact ⟨rfl, HB2.out⟩
  have PG := gnew 1 0 M w2 hM
  go_wp2_with fail
  refine PG.mono ?_
  rintro e w3 ⟨g, mb, rfl, hg, hg0, hm0, B3⟩
  have N3 : Hid (GtN w w3 g mb (newG 1 0 M)) := Lib.hid (by
    have hs := HB2.out.size
    exact ⟨hg, by omega, by omega, HB2.out.trans (B3.mono HB2.out.size)⟩)
  clear PG hg hg0 hm0 B3 HB2
  go_wp2_with fail
  go_loopw [6, 7, 8, 9, 10] (fun st sd sf sr si wr => ∃ (i : Nat) (S : Gt) (F : List Xg) (fa : Option Addr) (m fc : Nat) (t d : Int), i ≤ n ∧ m ≤ i ∧ 0 ≤ t ∧ t ≤ 1 ∧ 0 ≤ d ∧ d ≤ 1 ∧ st = .int .i64 t ∧ sd = .int .i64 d ∧ sf = .slice fa m fc ∧ sr = .int .u64 (S.Y : Int) ∧ si = .int .i64 i ∧ Aside (GtN w wr g mb S) ∧ Aside (FiSt w wr (.slice fa m fc) m F) ∧ Aside (OnR M S F t d)) (fun _ _ _ _ si _ => n - (intOf si).toNat)
  case atStart => exact ⟨0, _, [], none, 0, 0, 0, 0, Nat.zero_le _, Nat.le_refl _, by omega, by omega, by omega, by omega, rfl, rfl, rfl, rfl, rfl, N3.out, FiSt.start _ _, OnR.new 1 0 M⟩
  case round =>
    clear N3
    obtain ⟨i, S, F, fa, m, fc, t, d, hi, hmi, ht0, ht1, hd0, hd1, rfl, rfl, rfl, rfl, rfl, HN, HF, HO⟩ := hrel
    by_cases hlt : i < n
    · obtain ⟨b, o, e, hr⟩ := HL.out.src (show 0 < n by omega)
      subst e
      obtain ⟨a, ha⟩ : ∃ a, l[i]? = some a := ⟨_, List.getElem?_eq_getElem (by rw [HL.out.size]; exact hlt)⟩
      have hrg := gam_range hr ha
      have HR := Lib.hid (show wr.rangeAt b (o + i * 8) (encGA a) from fun j u hj => cell_later HN.out.bel (hrg j u hj))
      have hao := HOK.out a (List.mem_of_getElem? ha)
      have hp := hao.p
      have L4 := ((Grw.refl wr).alloc (.cells (encGA a).toArray 40)).below
      have A4 := Lib.hid (AcB.new wr a)
      have N4 := Lib.hid (HN.out.later L4)
      have F4 := Lib.hid (HF.out.later L4)
      have HX0 := Lib.hid hao.x
      have O4 := Lib.hid HO.out
      clear hr ha hrg L4 HN HF HO hao
      obtain ⟨rd, p, f, oe, op, xa, xn, xc, ct, kn, kp⟩ := a
      unfold encGA at A4 N4 F4
      simp only at A4 N4 F4 HX0 hp
      go_upto_region 13 with (first | (refine load_gam rfl (.tmp 34) rfl b (o + i * 8) ⟨rd, p, ⟨f, oe, op, xa, xn, xc, ct, ⟨kn, kp⟩⟩⟩ rfl HR.out ?_) | fail)
      generalize (wr.alloc (.cells #[.bool rd, .int .i64 p, .int .i64 f, .int .u64 oe, .int .i64 op, .slice xa xn xc, .int .u64 kn, .int .i64 kp] 40)) = w4 at *
      generalize wr.heap.size = ab at *
      clear HR
      have c0 : w4.cell? ⟨ab, 0, none⟩ = some (.bool rd) := A4.out.c0
      cases rd with
      | true =>
        have PT := gtold N4.out.at_
        cases htb : toldG S with
        | false =>
          rw [htb] at PT
          have HS := Lib.hid (ready_same (S := S) (z := p) (.inl htb))
          have HT := Lib.hid htb
          clear htb
          go_wp2_with fail
          refine PT.mono ?_
          rintro e w5 ⟨rfl, B5⟩
          have A5 := Lib.hid (A4.out.below B5)
          have N5 := Lib.hid (N4.out.later B5)
          have F5 := Lib.hid (F4.out.later B5)
          clear PT B5 A4 N4 F4 c0
          have c1 : w5.cell? ⟨ab, 1, none⟩ = some (.int .i64 p) := A5.out.c1
          have PR := gready N5.out.at_ p hp
          rw [HS.out.1, HS.out.2] at PR
          go_wp2_with fail
          refine PR.mono ?_
          rintro e w6 ha
          have he := ha.1
          subst he
          have N6 := Lib.hid (N5.out.act ha)
          have F6 := Lib.hid (F5.out.act N5.out.at_ ha.2.2)
          have O6 := Lib.hid O4.out
          clear PR ha A5 N5 F5 c1 O4 HS
          have PD := gdone N6.out.at_
          have hsz : ((m : Int) == (card M : Int)) = false := (fi_told O6.out F6.out.len).trans HT.out
          rw [done_told N6.out.at_.ok HT.out] at PD
          go_wp2_with fail
          refine PD.mono ?_
          rintro e x1 ⟨rfl, BX⟩
          have N7 := Lib.hid (N6.out.later BX)
          have F7 := Lib.hid (F6.out.later BX)
          clear PD BX N6 F6
          have PT := gtold N7.out.at_
          rw [HT.out] at PT
          go_wp2_with fail
          refine PT.mono ?_
          rintro e x2 ⟨rfl, BX⟩
          have N8 := Lib.hid (N7.out.later BX)
          have F8 := Lib.hid (F7.out.later BX)
          clear PT BX N7 F7
          have PT := gtold N8.out.at_
          rw [HT.out] at PT
          go_wp2_with fail
          refine PT.mono ?_
          rintro e x3 ⟨rfl, BX⟩
          have N9 := Lib.hid (N8.out.later BX)
          have F9 := Lib.hid (F8.out.later BX)
          clear PT BX N8 F8
          have PZ := size_any M x3 hM
          go_wp2_with fail
          refine PZ.mono ?_
          rintro e x4 ⟨rfl, rfl⟩
          clear PZ
          go_wp2
          go_roundw
          case rel => exact ⟨i + 1, S, F, fa, m, fc, t, d, by omega, by omega, by omega, by omega, by omega, by omega, by go_num, by go_num, rfl, rfl, by go_num, N9.out, F9.out, O6.out⟩
          case measure => simp [intOf]; omega
        | true =>
          rw [htb] at PT
          have HT := Lib.hid htb
          clear htb
          go_wp2_with fail
          refine PT.mono ?_
          rintro e w5 ⟨rfl, B5⟩
          have A5 := Lib.hid (A4.out.below B5)
          have N5 := Lib.hid (N4.out.later B5)
          have F5 := Lib.hid (F4.out.later B5)
          clear PT B5 A4 N4 F4 c0
          have c1 : w5.cell? ⟨ab, 1, none⟩ = some (.int .i64 p) := A5.out.c1
          have PH := has_any M p w5 hM hp.1 hp.2
          cases hmm : mem M p with
          | false =>
            rw [hmm] at PH
            have HS := Lib.hid (ready_same (S := S) (z := p) (.inr (by rw [O4.out.m]; exact hmm)))
            clear hmm
            go_wp2_with fail
            refine PH.mono ?_
            rintro e w6 ⟨rfl, rfl⟩
            clear PH
            have PR := gready N5.out.at_ p hp
            rw [HS.out.1, HS.out.2] at PR
            go_wp2_with fail
            refine PR.mono ?_
            rintro e w6 ha
            have he := ha.1
            subst he
            have N6 := Lib.hid (N5.out.act ha)
            have F6 := Lib.hid (F5.out.act N5.out.at_ ha.2.2)
            have O6 := Lib.hid O4.out
            clear PR ha A5 N5 F5 c1 O4 HS
            have PD := gdone N6.out.at_
            have hsz : ((m : Int) == (card M : Int)) = true := (fi_told O6.out F6.out.len).trans HT.out
            have hy := fi_done O6.out
            obtain ⟨db, hdb⟩ : ∃ db, db = doneG S := ⟨_, rfl⟩
            rw [← hdb] at PD hy
            -- 
            clear hdb
            have hbb : (db != db) = false := by cases db <;> rfl
            go_wp2_with fail
            refine PD.mono ?_
            rintro e x1 ⟨rfl, BX⟩
            have N7 := Lib.hid (N6.out.later BX)
            have F7 := Lib.hid (F6.out.later BX)
            clear PD BX N6 F6
            have PT := gtold N7.out.at_
            rw [HT.out] at PT
            go_wp2_with fail
            refine PT.mono ?_
            rintro e x2 ⟨rfl, BX⟩
            have N8 := Lib.hid (N7.out.later BX)
            have F8 := Lib.hid (F7.out.later BX)
            clear PT BX N7 F7
            have PT := gtold N8.out.at_
            rw [HT.out] at PT
            go_wp2_with fail
            refine PT.mono ?_
            rintro e x3 ⟨rfl, BX⟩
            have N9 := Lib.hid (N8.out.later BX)
            have F9 := Lib.hid (F8.out.later BX)
            clear PT BX N8 F8
            have PZ := size_any M x3 hM
            go_wp2_with fail
            refine PZ.mono ?_
            rintro e x4 ⟨rfl, rfl⟩
            clear PZ
            go_wp2
            go_roundw
            case rel => exact ⟨i + 1, S, F, fa, m, fc, t, d, by omega, by omega, by omega, by omega, by omega, by omega, by go_num, by go_num, rfl, rfl, by go_num, N9.out, F9.out, O6.out⟩
            case measure => simp [intOf]; omega
          | true =>
            rw [hmm] at PH
            have HY := Lib.hid (ready_any N5.out.at_.ok HT.out (z := p) (by rw [O4.out.m]; exact hmm))
            clear hmm
            go_wp2_with fail
            refine PH.mono ?_
            rintro e w6 ⟨rfl, rfl⟩
            clear PH
            have PW := with_any S.Y (some ⟨w5.heap.size, 0, none⟩) 1 1 [p] (w5.alloc (.cells #[.int .i64 p] 3)) N5.out.at_.ok.y (InI.oneZ w5 p hp.1 hp.2) (by decide)
            rw [ofl_oneZ, HY.out] at PW
            have L6 := ((Grw.refl w5).alloc (.cells #[.int .i64 p] 3)).below
            have A6 := Lib.hid (A5.out.below L6)
            have N6 := Lib.hid (N5.out.later L6)
            have F6 := Lib.hid (F5.out.later L6)
            clear L6 A5 N5 F5 HY
            go_wp2_with fail
            refine PW.mono ?_
            rintro e w7 ⟨rfl, rfl⟩
            clear PW c1
            generalize (w5.alloc (.cells #[.int .i64 p] 3)) = w5 at *
            have c1 : w5.cell? ⟨ab, 1, none⟩ = some (.int .i64 p) := A6.out.c1
            have PR := gready N6.out.at_ p hp
            have HT2 := Lib.hid (show toldG (readyG S p) = true by rw [told_ready]; exact HT.out)
            clear HT
            have HT := Lib.hid HT2.out
            clear HT2
            cases hrb : readyB S p with
            | false =>
              rw [hrb] at PR
              have O6 := Lib.hid (O4.out.ready p (fun h => O4.out.rest N6.out.at_.ok p h))
              obtain ⟨S2, hS2⟩ : ∃ S2, S2 = readyG S p := ⟨_, rfl⟩
              rw [← hS2] at PR HT O6
              rw [← hS2]
              clear hrb hS2
              go_wp2_with fail
              refine PR.mono ?_
              rintro e w7 ha
              have he := ha.1
              subst he
              have N6b := Lib.hid (N6.out.act ha)
              have F6b := Lib.hid (F6.out.act N6.out.at_ ha.2.2)
              clear PR ha A6 N6 F6 c1 O4
              have PD := gdone N6b.out.at_
              have hsz : ((m : Int) == (card M : Int)) = true := (fi_told O6.out F6b.out.len).trans HT.out
              have hy := fi_done O6.out
              obtain ⟨db, hdb⟩ : ∃ db, db = doneG S2 := ⟨_, rfl⟩
              rw [← hdb] at PD hy
              -- 
              clear hdb
              have hbb : (db != db) = false := by cases db <;> rfl
              go_wp2_with fail
              refine PD.mono ?_
              rintro e x1 ⟨rfl, BX⟩
              have N7 := Lib.hid (N6b.out.later BX)
              have F7 := Lib.hid (F6b.out.later BX)
              clear PD BX N6b F6b
              have PT := gtold N7.out.at_
              rw [HT.out] at PT
              go_wp2_with fail
              refine PT.mono ?_
              rintro e x2 ⟨rfl, BX⟩
              have N8 := Lib.hid (N7.out.later BX)
              have F8 := Lib.hid (F7.out.later BX)
              clear PT BX N7 F7
              have PT := gtold N8.out.at_
              rw [HT.out] at PT
              go_wp2_with fail
              refine PT.mono ?_
              rintro e x3 ⟨rfl, BX⟩
              have N9 := Lib.hid (N8.out.later BX)
              have F9 := Lib.hid (F8.out.later BX)
              clear PT BX N8 F8
              have PZ := size_any M x3 hM
              go_wp2_with fail
              refine PZ.mono ?_
              rintro e x4 ⟨rfl, rfl⟩
              clear PZ
              go_wp2
              go_roundw
              case rel => exact ⟨i + 1, S2, F, fa, m, fc, t, d, by omega, by omega, by omega, by omega, by omega, by omega, by go_num, by go_num, rfl, rfl, by go_num, N9.out, F9.out, O6.out⟩
              case measure => simp [intOf]; omega
            | true =>
              rw [hrb] at PR
              obtain ⟨rfl, hdd⟩ := O4.out.wasd hrb
              have O6 := Lib.hid (O4.out.ready p (d2 := 1) (fun h => by rw [hdd] at h; cases h))
              clear hdd
              obtain ⟨S2, hS2⟩ : ∃ S2, S2 = readyG S p := ⟨_, rfl⟩
              rw [← hS2] at PR HT O6
              rw [← hS2]
              clear hrb hS2
              go_wp2_with fail
              refine PR.mono ?_
              rintro e w7 ha
              have he := ha.1
              subst he
              have N6b := Lib.hid (N6.out.act ha)
              have F6b := Lib.hid (F6.out.act N6.out.at_ ha.2.2)
              clear PR ha A6 N6 F6 c1 O4
              have PD := gdone N6b.out.at_
              have hsz : ((m : Int) == (card M : Int)) = true := (fi_told O6.out F6b.out.len).trans HT.out
              have hy := fi_done O6.out
              obtain ⟨db, hdb⟩ : ∃ db, db = doneG S2 := ⟨_, rfl⟩
              rw [← hdb] at PD hy
              -- 
              clear hdb
              have hbb : (db != db) = false := by cases db <;> rfl
              go_wp2_with fail
              refine PD.mono ?_
              rintro e x1 ⟨rfl, BX⟩
              have N7 := Lib.hid (N6b.out.later BX)
              have F7 := Lib.hid (F6b.out.later BX)
              clear PD BX N6b F6b
              have PT := gtold N7.out.at_
              rw [HT.out] at PT
              go_wp2_with fail
              refine PT.mono ?_
              rintro e x2 ⟨rfl, BX⟩
              have N8 := Lib.hid (N7.out.later BX)
              have F8 := Lib.hid (F7.out.later BX)
              clear PT BX N7 F7
              have PT := gtold N8.out.at_
              rw [HT.out] at PT
              go_wp2_with fail
              refine PT.mono ?_
              rintro e x3 ⟨rfl, BX⟩
              have N9 := Lib.hid (N8.out.later BX)
              have F9 := Lib.hid (F8.out.later BX)
              clear PT BX N8 F8
              have PZ := size_any M x3 hM
              go_wp2_with fail
              refine PZ.mono ?_
              rintro e x4 ⟨rfl, rfl⟩
              clear PZ
              go_wp2
              go_roundw
              case rel => exact ⟨i + 1, S2, F, fa, m, fc, t, 1, by omega, by omega, by omega, by omega, by omega, by omega, by go_num, by go_num, rfl, rfl, by go_num, N9.out, F9.out, O6.out⟩
              case measure => simp [intOf]; omega
      | false =>
        have c2 : w4.cell? ⟨ab, 2, none⟩ = some (.int .i64 f) := A4.out.c2
        have PH := has_any M f w4 hM HX0.out.ok.w0 HX0.out.ok.w1
        obtain ⟨fb, hfb⟩ : ∃ fb, fb = mem M f := ⟨_, rfl⟩
        rw [← hfb] at PH
        have HFB := Lib.hid hfb
        clear hfb
        go_wp2_with fail
        refine PH.mono ?_
        rintro e w5 ⟨rfl, rfl⟩
        clear PH
        go_wp2_with fail
        go_loopw [12, 13] (fun sb sk wx => ∃ (k : Nat) (bb : Bool), k ≤ m ∧ sb = .bool bb ∧ sk = .int .i64 k ∧ Aside (Below w4.heap.size w4 wx) ∧ Aside (bb = (fb && newK F k f))) (fun _ sk _ => m - (intOf sk).toNat)
        case atStart => exact ⟨0, fb, Nat.zero_le _, rfl, rfl, Below.refl _ _, by show fb = (fb && newK F 0 f); unfold newK; simp⟩
        case round =>
          obtain ⟨k, bb, hk, rfl, rfl, HB, HBB⟩ := hrel
          by_cases hlk : k < m
          · obtain ⟨fx, hfx⟩ : ∃ fx, F[k]? = some fx := ⟨_, List.getElem?_eq_getElem (by rw [F4.out.len]; exact hlk)⟩
            obtain ⟨fg, fcc, e, hmc, hcm, hrg, hlb⟩ := F4.out.cell hfx
            injection e with e1 _ e3
            subst e1 e3
            have v0 : wr.cell? ⟨fg, k * 6, none⟩ = some (.int .i64 fx.w) := cell_later HB.out (hrg 0 _ rfl)
            have v2 : wr.cell? ⟨ab, 2, none⟩ = some (.int .i64 f) := (A4.out.below HB.out).c2
            obtain ⟨fw, hfw⟩ : ∃ fw, fw = fx.w := ⟨_, rfl⟩
            rw [← hfw] at v0
            have HNK := Lib.hid (newK_next (z := f) hfx)
            rw [← hfw] at HNK
            clear hfx hrg hlb hmc hcm c0 c2 hfw
            cases bb with
            | false =>
              have HBN := Lib.hid (show false = (fb && newK F (k + 1) f) by rw [HNK.out, ← Bool.and_assoc, ← HBB.out]; rfl)
              clear HBB HNK
              go_upto_region 22 with fail
              go_quiet (fail)
              have HB2 := Lib.hid (HB.out.trans (((Grw.refl wr).drewN nq).below.mono HB.out.size))
              clear HB
              go_wp2
              go_roundw
              case rel => exact ⟨k + 1, false, by omega, rfl, by go_num, HB2.out, HBN.out⟩
              case measure => simp [intOf]; omega
            | true =>
              cases hq : (fw != f) with
              | false =>
                have HBN := Lib.hid (show false = (fb && newK F (k + 1) f) by
                  rw [HNK.out, ← Bool.and_assoc, ← HBB.out]
                  have : fw = f := by simpa using hq
                  rw [decide_eq_false (by simpa using this)]; rfl)
                clear HBB HNK
                go_upto_region 22 with fail
                go_quiet (fail)
                have HB2 := Lib.hid (HB.out.trans (((Grw.refl wr).drewN nq).below.mono HB.out.size))
                clear HB
                go_wp2
                go_roundw
                case rel => exact ⟨k + 1, false, by omega, rfl, by go_num, HB2.out, HBN.out⟩
                case measure => simp [intOf]; omega
              | true =>
                have HBN := Lib.hid (show true = (fb && newK F (k + 1) f) by
                  rw [HNK.out, ← Bool.and_assoc, ← HBB.out]
                  have : ¬ fw = f := by simpa using hq
                  rw [decide_eq_true this]; rfl)
                clear HBB HNK
                go_upto_region 22 with fail
                go_quiet (fail)
                have HB2 := Lib.hid (HB.out.trans (((Grw.refl wr).drewN nq).below.mono HB.out.size))
                clear HB
                go_wp2
                go_roundw
                case rel => exact ⟨k + 1, true, by omega, rfl, by go_num, HB2.out, HBN.out⟩
                case measure => simp [intOf]; omega
          · obtain rfl : k = m := by omega
            have HFR := Lib.hid (show freshG S f = bb by rw [O4.out.fresh f, ← HFB.out, F4.out.len, ← HBB.out])
            have A5 := Lib.hid (A4.out.below HB.out)
            have N5 := Lib.hid (N4.out.later HB.out)
            have F5 := Lib.hid (F4.out.later HB.out)
            clear HB HBB HFB A4 N4 F4 c0 c2
            have HX5 := Lib.hid (HX0.out.below N5.out.bel)
            cases bb with
            | false =>
              have HRX := Lib.hid (show wr.rangeAt ab 2 (encXg ⟨f, oe, op, xa, xn, xc, ct, ⟨kn, kp⟩⟩) from A5.out.rng)
              have PR : Calls _ _ _ _ _ := gadd N5.out.at_ ⟨f, oe, op, xa, xn, xc, ct, ⟨kn, kp⟩⟩ HX5.out
              unfold encXv encXg at PR
              simp only at PR
              have HNO := Lib.hid (show addB S ⟨f, oe, op, xa, xn, xc, ct, ⟨kn, kp⟩⟩ = false from (add_no HFR.out).2)
              go_wp2_with (first | (refine load_xgm rfl (.tmp 87) rfl ab 2 ⟨f, oe, op, xa, xn, xc, ct, ⟨kn, kp⟩⟩ rfl HRX.out ?_) | fail)
              refine PR.mono ?_
              rintro e w6 ⟨y, hst, ha⟩
              have hyw : y.w = f := stripX_w hst
              have hsm : addG S y = S := (add_no (by rw [hyw]; exact HFR.out)).1
              rw [hsm, HNO.out] at ha
              have he := ha.1
              subst he
              have N6 := Lib.hid (N5.out.act ha)
              have F6 := Lib.hid (F5.out.act N5.out.at_ ha.2.2)
              have O6 := Lib.hid O4.out
              clear PR ha A5 N5 F5 O4 HNO hst hyw hsm HRX HX5 HX0 HFR
              cases htb : toldG S with
              | false =>
                have HT := Lib.hid htb
                clear htb
                have PD := gdone N6.out.at_
                have hsz : ((k : Int) == (card M : Int)) = false := (fi_told O6.out F6.out.len).trans HT.out
                rw [done_told N6.out.at_.ok HT.out] at PD
                go_wp2_with fail
                refine PD.mono ?_
                rintro e x1 ⟨rfl, BX⟩
                have N7 := Lib.hid (N6.out.later BX)
                have F7 := Lib.hid (F6.out.later BX)
                clear PD BX N6 F6
                have PT := gtold N7.out.at_
                rw [HT.out] at PT
                go_wp2_with fail
                refine PT.mono ?_
                rintro e x2 ⟨rfl, BX⟩
                have N8 := Lib.hid (N7.out.later BX)
                have F8 := Lib.hid (F7.out.later BX)
                clear PT BX N7 F7
                have PT := gtold N8.out.at_
                rw [HT.out] at PT
                go_wp2_with fail
                refine PT.mono ?_
                rintro e x3 ⟨rfl, BX⟩
                have N9 := Lib.hid (N8.out.later BX)
                have F9 := Lib.hid (F8.out.later BX)
                clear PT BX N8 F8
                have PZ := size_any M x3 hM
                go_wp2_with fail
                refine PZ.mono ?_
                rintro e x4 ⟨rfl, rfl⟩
                clear PZ
                go_wp2
                go_roundw
                case rel => exact ⟨i + 1, S, F, fa, k, fc, t, d, by omega, by omega, by omega, by omega, by omega, by omega, by go_num, by go_num, rfl, rfl, by go_num, N9.out, F9.out, O6.out⟩
                case measure => simp [intOf]; omega
              | true =>
                have HT := Lib.hid htb
                clear htb
                have PD := gdone N6.out.at_
                have hsz : ((k : Int) == (card M : Int)) = true := (fi_told O6.out F6.out.len).trans HT.out
                have hy := fi_done O6.out
                obtain ⟨db, hdb⟩ : ∃ db, db = doneG S := ⟨_, rfl⟩
                rw [← hdb] at PD hy
                -- 
                clear hdb
                have hbb : (db != db) = false := by cases db <;> rfl
                go_wp2_with fail
                refine PD.mono ?_
                rintro e x1 ⟨rfl, BX⟩
                have N7 := Lib.hid (N6.out.later BX)
                have F7 := Lib.hid (F6.out.later BX)
                clear PD BX N6 F6
                have PT := gtold N7.out.at_
                rw [HT.out] at PT
                go_wp2_with fail
                refine PT.mono ?_
                rintro e x2 ⟨rfl, BX⟩
                have N8 := Lib.hid (N7.out.later BX)
                have F8 := Lib.hid (F7.out.later BX)
                clear PT BX N7 F7
                have PT := gtold N8.out.at_
                rw [HT.out] at PT
                go_wp2_with fail
                refine PT.mono ?_
                rintro e x3 ⟨rfl, BX⟩
                have N9 := Lib.hid (N8.out.later BX)
                have F9 := Lib.hid (F8.out.later BX)
                clear PT BX N8 F8
                have PZ := size_any M x3 hM
                go_wp2_with fail
                refine PZ.mono ?_
                rintro e x4 ⟨rfl, rfl⟩
                clear PZ
                go_wp2
                go_roundw
                case rel => exact ⟨i + 1, S, F, fa, k, fc, t, d, by omega, by omega, by omega, by omega, by omega, by omega, by go_num, by go_num, rfl, rfl, by go_num, N9.out, F9.out, O6.out⟩
                case measure => simp [intOf]; omega
            | true =>
              have HRX := Lib.hid (show wr.rangeAt ab 2 (encXg ⟨f, oe, op, xa, xn, xc, ct, ⟨kn, kp⟩⟩) from A5.out.rng)
              have L2 := ((Grw.refl wr).alloc (.cells #[.int .i64 f, .int .u64 oe, .int .i64 op, .slice xa xn xc, .int .u64 kn, .int .i64 kp] 38)).below
              have X2 := Lib.hid (XgB.new wr ⟨f, oe, op, xa, xn, xc, ct, ⟨kn, kp⟩⟩)
              have A6 := Lib.hid (A5.out.below L2)
              have N6 := Lib.hid (N5.out.later L2)
              have F6 := Lib.hid (F5.out.later L2)
              clear L2 A5 N5 F5 HX5
              unfold encXg at X2
              simp only at X2
              go_upto_region 25 with (first
                | (refine load_xgm rfl (.tmp 82) rfl ab 2 ⟨f, oe, op, xa, xn, xc, ct, ⟨kn, kp⟩⟩ rfl HRX.out ?_)
                | (at_builtin; refine append_xg16 _ rfl (.tmp 81) (.tmp 84) rfl w.heap.size (.slice fa k fc) k F rfl F6.out.own wr.heap.size 1 ⟨f, oe, op, xa, xn, xc, ct, ⟨kn, kp⟩⟩ rfl X2.out (by omega) N6.out.bel.size ?_; intro v5 w5 hown hgrow))
              obtain ⟨fa2, fc2, rfl⟩ := own_form' hown
              have A7 := Lib.hid (A6.out.row F6.out hgrow)
              have N7 := Lib.hid (N6.out.row F6.out hgrow)
              have F7 := Lib.hid (F6.out.app HX0.out hown)
              have HX7 := Lib.hid (HX0.out.below N7.out.bel)
              clear hown hgrow X2 A6 N6 F6 HRX
              generalize (wr.alloc (.cells #[.int .i64 f, .int .u64 oe, .int .i64 op, .slice xa xn xc, .int .u64 kn, .int .i64 kp] 38)) = w6 at *
              have HRX := Lib.hid (show w5.rangeAt ab 2 (encXg ⟨f, oe, op, xa, xn, xc, ct, ⟨kn, kp⟩⟩) from A7.out.rng)
              have PR := gadd N7.out.at_ ⟨f, oe, op, xa, xn, xc, ct, ⟨kn, kp⟩⟩ HX7.out
              unfold encXv encXg at PR
              simp only at PR
              obtain rfl : t = 0 := O4.out.was N7.out.at_.ok HFR.out
              obtain ⟨ab2, hab⟩ : ∃ ab2, ab2 = addB S ⟨f, oe, op, xa, xn, xc, ct, ⟨kn, kp⟩⟩ := ⟨_, rfl⟩
              have HAB := Lib.hid hab
              clear hab
              cases ab2 with
              | false =>
                go_wp2_with (first | (refine load_xgm rfl (.tmp 87) rfl ab 2 ⟨f, oe, op, xa, xn, xc, ct, ⟨kn, kp⟩⟩ rfl HRX.out ?_) | fail)
                refine PR.mono ?_
                rintro e w8 ⟨y, hst, ha⟩
                have hyw : y.w = f := stripX_w hst
                have hfr : freshG S y.w = true := by rw [hyw]; exact HFR.out
                rw [← HAB.out] at ha
                have HT : Hid (toldG (addG S y) = false) := Lib.hid (by
                  have h1 := add_told (S := S) (x := y)
                  rw [hfr, Bool.true_and, ← addB_nS hst, addB_x, ← HAB.out] at h1
                  exact h1.symm)
                have O6 := Lib.hid (O4.out.add (t2 := 0) N7.out.at_.ok hst hfr (fun h => rfl))
                have HYV : Hid (S.Y = (addG S y).Y) := Lib.hid (by rw [add_yes hfr])
                obtain ⟨S2, hS2⟩ : ∃ S2, S2 = addG S y := ⟨_, rfl⟩
                rw [← hS2] at HT O6 HYV ha
                have he := ha.1
                subst he
                have N6 := Lib.hid (N7.out.act ha)
                have F6 := Lib.hid (F7.out.act N7.out.at_ ha.2.2)
                clear PR ha A7 N7 F7 O4 hst hyw hfr HRX HX7 HX0 HFR HAB hS2
                have PD := gdone N6.out.at_
                have hsz : ((k : Int) + 1 == (card M : Int)) = false := (fi_told O6.out F6.out.len).trans HT.out
                rw [done_told N6.out.at_.ok HT.out] at PD
                go_wp2_with fail
                refine PD.mono ?_
                rintro e x1 ⟨rfl, BX⟩
                have N7 := Lib.hid (N6.out.later BX)
                have F7 := Lib.hid (F6.out.later BX)
                clear PD BX N6 F6
                have PT := gtold N7.out.at_
                rw [HT.out] at PT
                go_wp2_with fail
                refine PT.mono ?_
                rintro e x2 ⟨rfl, BX⟩
                have N8 := Lib.hid (N7.out.later BX)
                have F8 := Lib.hid (F7.out.later BX)
                clear PT BX N7 F7
                have PT := gtold N8.out.at_
                rw [HT.out] at PT
                go_wp2_with fail
                refine PT.mono ?_
                rintro e x3 ⟨rfl, BX⟩
                have N9 := Lib.hid (N8.out.later BX)
                have F9 := Lib.hid (F8.out.later BX)
                clear PT BX N8 F8
                have PZ := size_any M x3 hM
                go_wp2_with fail
                refine PZ.mono ?_
                rintro e x4 ⟨rfl, rfl⟩
                clear PZ
                go_wp2
                go_roundw
                case rel => exact ⟨i + 1, S2, (F ++ [(⟨f, oe, op, xa, xn, xc, ct, ⟨kn, kp⟩⟩ : Xg)]), fa2, (k + 1), fc2, 0, d, by omega, by omega, by omega, by omega, by omega, by omega, by go_num, by go_num, rfl, congrArg (fun q : Nat => Value.int .u64 (q : Int)) HYV.out, by go_num, N9.out, F9.out, O6.out⟩
                case measure => simp [intOf]; omega
              | true =>
                go_wp2_with (first | (refine load_xgm rfl (.tmp 87) rfl ab 2 ⟨f, oe, op, xa, xn, xc, ct, ⟨kn, kp⟩⟩ rfl HRX.out ?_) | fail)
                refine PR.mono ?_
                rintro e w8 ⟨y, hst, ha⟩
                have hyw : y.w = f := stripX_w hst
                have hfr : freshG S y.w = true := by rw [hyw]; exact HFR.out
                rw [← HAB.out] at ha
                have HT : Hid (toldG (addG S y) = true) := Lib.hid (by
                  have h1 := add_told (S := S) (x := y)
                  rw [hfr, Bool.true_and, ← addB_nS hst, addB_x, ← HAB.out] at h1
                  exact h1.symm)
                have O6 := Lib.hid (O4.out.add (t2 := 1) N7.out.at_.ok hst hfr (fun h => by rw [HT.out] at h; cases h))
                have HYV : Hid (S.Y = (addG S y).Y) := Lib.hid (by rw [add_yes hfr])
                obtain ⟨S2, hS2⟩ : ∃ S2, S2 = addG S y := ⟨_, rfl⟩
                rw [← hS2] at HT O6 HYV ha
                have he := ha.1
                subst he
                have N6 := Lib.hid (N7.out.act ha)
                have F6 := Lib.hid (F7.out.act N7.out.at_ ha.2.2)
                clear PR ha A7 N7 F7 O4 hst hyw hfr HRX HX7 HX0 HFR HAB hS2
                have PD := gdone N6.out.at_
                have hsz : ((k : Int) + 1 == (card M : Int)) = true := (fi_told O6.out F6.out.len).trans HT.out
                have hy := fi_done O6.out
                obtain ⟨db, hdb⟩ : ∃ db, db = doneG S2 := ⟨_, rfl⟩
                rw [← hdb] at PD hy
                rw [← HYV.out] at hy
                clear hdb
                have hbb : (db != db) = false := by cases db <;> rfl
                go_wp2_with fail
                refine PD.mono ?_
                rintro e x1 ⟨rfl, BX⟩
                have N7 := Lib.hid (N6.out.later BX)
                have F7 := Lib.hid (F6.out.later BX)
                clear PD BX N6 F6
                have PT := gtold N7.out.at_
                rw [HT.out] at PT
                go_wp2_with fail
                refine PT.mono ?_
                rintro e x2 ⟨rfl, BX⟩
                have N8 := Lib.hid (N7.out.later BX)
                have F8 := Lib.hid (F7.out.later BX)
                clear PT BX N7 F7
                have PT := gtold N8.out.at_
                rw [HT.out] at PT
                go_wp2_with fail
                refine PT.mono ?_
                rintro e x3 ⟨rfl, BX⟩
                have N9 := Lib.hid (N8.out.later BX)
                have F9 := Lib.hid (F8.out.later BX)
                clear PT BX N8 F8
                have PZ := size_any M x3 hM
                go_wp2_with fail
                refine PZ.mono ?_
                rintro e x4 ⟨rfl, rfl⟩
                clear PZ
                go_wp2
                go_roundw
                case rel => exact ⟨i + 1, S2, (F ++ [(⟨f, oe, op, xa, xn, xc, ct, ⟨kn, kp⟩⟩ : Xg)]), fa2, (k + 1), fc2, 1, d, by omega, by omega, by omega, by omega, by omega, by omega, by go_num, by go_num, rfl, congrArg (fun q : Nat => Value.int .u64 (q : Int)) HYV.out, by go_num, N9.out, F9.out, O6.out⟩
                case measure => simp [intOf]; omega
    · obtain rfl : i = n := by omega
      have PX := gexch HN.out.at_
      have HBN := Lib.hid HN.out.bel
      have HOK2 := Lib.hid HN.out.at_.ok
      have F5 := Lib.hid HF.out
      have O5 := Lib.hid HO.out
      clear HN HF HO HOK HL
      go_wp2_with fail
      refine PX.mono ?_
      rintro e w6 ⟨xa, xn, xc, X, rfl, hex⟩
      have HEL := Lib.hid (show X.length = m by
        have h1 := congrArg List.length hex.str
        rw [List.length_map, List.length_map, exL_num HOK2.out, ← O5.out.n, F5.out.len] at h1
        exact h1)
      obtain rfl : xn = m := by have h1 := hex.len; have h2 := HEL.out; omega
      have F6 := Lib.hid (F5.out.later hex.bel)
      have HB6 := Lib.hid (HBN.out.trans (hex.bel.mono HBN.out.size))
      have HOW := Lib.hid hex.own
      have HSX := Lib.hid hex.str
      have HXS := Lib.hid hex.xs
      clear PX hex F5 HBN
      go_wp2_with fail
      go_loopw [15] (fun si wx => ∃ q : Nat, q ≤ xn ∧ si = .int .i64 q ∧ Aside (Below w6.heap.size w6 wx)) (fun si _ => xn - (intOf si).toNat)
      case atStart => exact ⟨0, Nat.zero_le _, rfl, Below.refl _ _⟩
      case round =>
        obtain ⟨q, hq, rfl, HB⟩ := hrel
        by_cases hlq : q < xn
        · obtain ⟨x, hx⟩ : ∃ x, X[q]? = some x := ⟨_, List.getElem?_eq_getElem (by rw [HEL.out]; exact hlq)⟩
          obtain ⟨xg, xcc, e, hxc, hxm, hrx, hxl⟩ := own_cell16 HOW.out HEL.out hx
          injection e with e1 _ e3
          subst e1 e3
          have HLX := Lib.hid (lst_one hrx)
          have HRX := Lib.hid hrx
          have HXV := Lib.hid ((HXS.out x (List.mem_of_getElem? hx)).1.v)
          have HFO := Lib.hid (O5.out.found HSX.out (List.mem_of_getElem? hx))
          have HXQ := Lib.hid hx
          clear hrx hx hxl hxm
          go_wp2_with fail
          go_loopw [16, 17] (fun sb sk wy => ∃ (k : Nat) (bb : Bool), k ≤ xn ∧ sb = .bool bb ∧ sk = .int .i64 k ∧ Aside (Below w6.heap.size w6 wy) ∧ Aside (∀ (k' : Nat) (f' : Xg), k' < k → F[k']? = some f' → sameL [x] [f'] = true → bb = true)) (fun _ sk _ => xn - (intOf sk).toNat)
          case atStart => exact ⟨0, false, Nat.zero_le _, rfl, rfl, HB.out, fun k' f' h => absurd h (Nat.not_lt_zero _)⟩
          case round =>
            clear HB
            obtain ⟨k, bb, hk, rfl, rfl, HB, HBB⟩ := hrel
            by_cases hlk : k < xn
            · obtain ⟨f, hf⟩ : ∃ f, F[k]? = some f := ⟨_, List.getElem?_eq_getElem (by rw [F6.out.len]; exact hlk)⟩
              obtain ⟨fg, fcc, e, hfc, hfm, hrf, hfl⟩ := F6.out.cell hf
              injection e with e1 _ e3
              subst e1 e3
              have hs1 := fun W => run_slice1 W xg xn xc q (by omega)
              have hs2 := fun W => run_slice1 W fg xn fc k (by omega)
              have hw1 : IntKind.i64.wrap ((q : Int) + 1) = (q : Int) + 1 := by rw [IntKind.wrap_i64]; omega
              have hw2 : IntKind.i64.wrap ((k : Int) + 1) = (k : Int) + 1 := by rw [IntKind.wrap_i64]; omega
              have HFV := (F6.out.xs f (List.mem_of_getElem? hf)).below (HB6.out.trans (HB.out.mono HB6.out.size))
              have HLF := lst_one hrf
              obtain ⟨sb, hsb⟩ : ∃ sb, sb = sameL [x] [f] := ⟨_, rfl⟩
              have K : Hid (∀ n' os', Calls Tryd.prog 22 #[.slice (some ⟨xg, q * 6, none⟩) 1 (xc - q), .slice (some ⟨fg, k * 6, none⟩) 1 (fc - k)] (grow (atD wr n') os') fun e w'' => e = .returned (.bool sb) ∧ Below (grow (atD wr n') os').heap.size (grow (atD wr n') os') w'') := Lib.hid (fun n' os' => by
                have B := HB.out.trans ((below_of_form wr n' os').mono HB.out.size)
                have h := rexch2 (some ⟨xg, q * 6, none⟩) (some ⟨fg, k * 6, none⟩) 1 1 (xc - q) (fc - k) [x] [f] (grow (atD wr n') os') (HLX.out.below B) (HLF.below B)
                  (fun z hz => by rw [List.mem_singleton.1 hz]; exact HXV.out.below B) (fun z hz => by rw [List.mem_singleton.1 hz]; exact HFV.v.below (below_of_form wr n' os')) (by decide)
                rw [← hsb] at h
                exact h)
              have HNB := Lib.hid (show ∀ b2 : Bool, (bb = true → b2 = true) → (sb = true → b2 = true) → ∀ (k' : Nat) (f' : Xg), k' < k + 1 → F[k']? = some f' → sameL [x] [f'] = true → b2 = true from fun b2 h1 h2 k' f' hk' hf' hs => by
                by_cases e : k' = k
                · subst e
                  rw [hf] at hf'
                  injection hf' with hf'
                  subst hf'
                  exact h2 (by rw [hsb]; exact hs)
                · exact h1 (HBB.out k' f' (by omega) hf' hs))
              clear HFV HLF hsb hrf hf hfl hfm HBB
              cases bb with
              | true =>
                have HBN := Lib.hid (HNB.out true (fun _ => rfl) (fun _ => rfl))
                clear HNB
                go_upto_region 37 with fail
                refine wp_region_quiet_below (by kernel_rfl) (by kernel_rfl) ?_
                repeat (first | go_big_quiet_skip | quiet_step (first | (go_at_call 22; exact calls_below (K.out _ _))))
                refine wpQuiet_nil ?_
                intro _ hw'
                obtain ⟨⟨nq, osq⟩, hw''⟩ := hw'
                subst hw''
                have HB2 := Lib.hid (HB.out.trans ((below_of_form wr nq osq).mono HB.out.size))
                clear K HB hs1 hs2 hw1 hw2
                generalize (grow (atD wr nq) osq) = w2 at *
                go_wp2
                go_roundw
                case rel => exact ⟨k + 1, true, by omega, rfl, by go_num, HB2.out, HBN.out⟩
                case measure => simp [intOf]; omega
              | false =>
                cases sb with
                | true =>
                  have HBN := Lib.hid (HNB.out true (fun _ => rfl) (fun _ => rfl))
                  clear HNB
                  go_upto_region 37 with fail
                  refine wp_region_quiet_below (by kernel_rfl) (by kernel_rfl) ?_
                  repeat (first | go_big_quiet_skip | quiet_step (first | (go_at_call 22; exact calls_below (K.out _ _))))
                  refine wpQuiet_nil ?_
                  intro _ hw'
                  obtain ⟨⟨nq, osq⟩, hw''⟩ := hw'
                  subst hw''
                  have HB2 := Lib.hid (HB.out.trans ((below_of_form wr nq osq).mono HB.out.size))
                  clear K HB hs1 hs2 hw1 hw2
                  generalize (grow (atD wr nq) osq) = w2 at *
                  go_wp2
                  go_roundw
                  case rel => exact ⟨k + 1, true, by omega, rfl, by go_num, HB2.out, HBN.out⟩
                  case measure => simp [intOf]; omega
                | false =>
                  have HBN := Lib.hid (HNB.out false (fun h => h) (fun h => h))
                  clear HNB
                  go_upto_region 37 with fail
                  refine wp_region_quiet_below (by kernel_rfl) (by kernel_rfl) ?_
                  repeat (first | go_big_quiet_skip | quiet_step (first | (go_at_call 22; exact calls_below (K.out _ _))))
                  refine wpQuiet_nil ?_
                  intro _ hw'
                  obtain ⟨⟨nq, osq⟩, hw''⟩ := hw'
                  subst hw''
                  have HB2 := Lib.hid (HB.out.trans ((below_of_form wr nq osq).mono HB.out.size))
                  clear K HB hs1 hs2 hw1 hw2
                  generalize (grow (atD wr nq) osq) = w2 at *
                  go_wp2
                  go_roundw
                  case rel => exact ⟨k + 1, false, by omega, rfl, by go_num, HB2.out, HBN.out⟩
                  case measure => simp [intOf]; omega
            · obtain rfl : k = xn := by omega
              obtain rfl : bb = true := by
                obtain ⟨k', f', h1, h2⟩ := HFO.out
                exact HBB.out k' f' (by have := (List.getElem?_eq_some_iff.1 h1).1; have := F6.out.len; omega) h1 h2
              clear HBB HFO HLX HXV
              cases q with
              | zero =>
                go_upto_region 38 with fail
                go_quiet (fail)
                have HB2 := Lib.hid (HB.out.trans (((Grw.refl wr).drewN nq).below.mono HB.out.size))
                clear HB
                go_wp2
                go_roundw
                case rel => exact ⟨1, by omega, by go_num, HB2.out⟩
                case measure => simp [intOf]; omega
              | succ j =>
                obtain ⟨x', hx'⟩ : ∃ x', X[j]? = some x' := ⟨_, List.getElem?_eq_getElem (by rw [HEL.out]; omega)⟩
                obtain ⟨xg2, xcc2, e, _, _, hrx2, _⟩ := own_cell16 HOW.out HEL.out hx'
                injection e with e1 _ _
                injection e1 with e1
                injection e1 with e1 _ _
                subst e1
                have v1 : wr.cell? ⟨xg, (j + 1) * 6, none⟩ = some (.int .i64 x.w) := cell_later HB.out (HRX.out 0 _ rfl)
                have v2 : wr.cell? ⟨xg, j * 6, none⟩ = some (.int .i64 x'.w) := cell_later HB.out (hrx2 0 _ rfl)
                have hle := rise_at HSX.out HOK2.out hx' HXQ.out
                generalize x'.w = z1 at *
                generalize x.w = z2 at *
                have hd : decide (z2 ≤ z1) = false := decide_eq_false (by omega)
                have hd0 : decide ((0 : Int) < ((j + 1 : Nat) : Int)) = true := decide_eq_true (by omega)
                have hj : ((j + 1 : Nat) : Int) - 1 = (j : Int) := by omega
                clear hx' hrx2 HRX HXQ
                go_upto_region 38 with fail
                go_quiet (fail)
                have HB2 := Lib.hid (HB.out.trans (((Grw.refl wr).drewN nq).below.mono HB.out.size))
                clear HB
                go_wp2
                go_roundw
                case rel => exact ⟨j + 2, by omega, by go_num, HB2.out⟩
                case measure => simp [intOf]; omega
        · obtain rfl : q = xn := by omega
          have HB7 := Lib.hid (HB6.out.trans (HB.out.mono HB6.out.size))
          clear HB HB6
          have hd1' : decide (t ≤ 1) = true := decide_eq_true ht1
          have hd2' : decide (d ≤ 1) = true := decide_eq_true hd1
          have hqq : ((q : Int) == (q : Int)) = true := by simp
          go_wp2
          go_ret
          exact ⟨rfl, HB7.out⟩
theorem walk_GatherOnce {w : World} (M : Int) (wM : (Lit.int .u64 M).wf = true) (so : Option Addr) (n c : Nat) (l : List GA) (hl : Lst encGA 8 w so n l ∧ (∀ a ∈ l, a.ok w) ∧ n ≤ 1759218604390) (hTab : Tab w) :
    Calls Tryd.prog 5 #[.int .u64 M, .slice so n c] w fun e w' => e = .returned (.bool true) ∧ Below w.heap.size w w' := by
  have b1 := Go.bounds_u64 wM
  obtain ⟨M, rfl⟩ := Int.eq_ofNat_of_zero_le b1.1
  exact once_core M (by omega) so n c l w hl.1 hl.2.1 hl.2.2 hTab
end Go.Proofs.YtmaiphgmnammgaaDoor
