/- The walk of GatherPlays. (Written by wip/gen_gaplays.py.) -/
import Derived.Test.YtmaiphgmnammgaaDoorZRgWaitss
set_option linter.unusedVariables false
set_option maxRecDepth 100000
set_option linter.unusedSimpArgs false
namespace Go.Proofs.YtmaiphgmnammgaaDoor
open Go.RowKit Go.Sort Go.Maps

set_option maxHeartbeats 16000000 in
theorem plays_core (ie ir : Int) (M : Nat) (hM : M < 18446744073709551616) (so : Option Addr) (n c : Nat) (l : List GA) (w : World) (hl : Lst encGA 8 w so n l) (hok : ∀ a ∈ l, a.ok w) (hn : n ≤ 1759218604390) (hTab : Tab w) :
    Calls Tryd.prog 3 #[.agg #[.int .u64 ie, .int .i64 ir], .int .u64 (M : Int), .slice so n c] w fun e w' => e = .returned (.bool true) ∧ Below w.heap.size w w' := by
  have L0 := ((Grw.refl w).alloc (.cells #[.int .u64 ie, .int .i64 ir] 24)).below
  have C0 := Lib.hid (Own.new w 24 #[.int .u64 ie, .int .i64 ir])
  have PA := gawake (w.alloc (.cells #[.int .u64 ie, .int .i64 ir] 24)) (hTab.below L0 (Nat.le_refl _))
  have HL := Lib.hid hl
  have HOK := Lib.hid hok
  have HB0 := Lib.hid L0
  clear hl hok hTab L0
  go_enter Tryd.func3, Tryd.ntmps3
  go_upto_region 1 with fail
  generalize (w.alloc (.cells #[.int .u64 ie, .int .i64 ir] 24)) = w0 at *
  have C1 : Hid (Own w0 w.heap.size 24 #[.int .u64 ie, .int .i64 ir]) := Lib.hid C0.out
  obtain ⟨cb, hcb⟩ : ∃ cb, cb = w.heap.size := ⟨_, rfl⟩
  rw [← hcb] at C1
  try rw [← hcb]
  clear C0 hcb
  go_wp2_with fail
  refine PA.mono ?_
  rintro e w1 ⟨rfl, B1⟩
  have HB1 := Lib.hid (HB0.out.trans (B1.mono HB0.out.size))
  have C2 := Lib.hid (C1.out.below B1 C1.out.lt)
  have PF := gfew (HL.out.below HB1.out) hn c
  clear PA B1 HB0 C1
  go_wp2_with fail
  refine PF.mono ?_
  rintro e w2 ⟨h2, B2⟩
  have HB2 := Lib.hid (HB1.out.trans (B2.mono HB1.out.size))
  have C3 := Lib.hid (C2.out.below B2 C2.out.lt)
  clear PF B2 HB1 C2
  rcases h2 with rfl | ⟨rfl, hn80⟩
  · go_wp2
    go_ret
    exact ⟨rfl, HB2.out⟩
  have PG := gnew ie ir M w2 hM
  have q0 : w2.cell? ⟨cb, 0, none⟩ = some (.int .u64 ie) := C3.out.at_ 0 _ rfl
  have q1 : w2.cell? ⟨cb, 1, none⟩ = some (.int .i64 ir) := C3.out.at_ 1 _ rfl
  go_wp2_with fail
  refine PG.mono ?_
  rintro e w3 ⟨g, mb, rfl, hg, hg0, hm0, B3⟩
  have N3 : Hid (GtN w w3 g mb (newG ie ir M)) := Lib.hid (by
    have hs := HB2.out.size
    exact ⟨hg, by omega, by omega, HB2.out.trans (B3.mono HB2.out.size)⟩)
  have C4 := Lib.hid (C3.out.below B3 C3.out.lt)
  clear PG hg hg0 hm0 B3 HB2 q0 q1 C3
  have q0 : w3.cell? ⟨cb, 0, none⟩ = some (.int .u64 ie) := C4.out.at_ 0 _ rfl
  have q1 : w3.cell? ⟨cb, 1, none⟩ = some (.int .i64 ir) := C4.out.at_ 1 _ rfl
  have P4 : Hid (GpSt w (w3.alloc (.cells (encRG ⟨ie, ir, M, none, 0, 0, [], 0⟩).toArray 33)) g mb (newG ie ir M) w3.heap.size ⟨ie, ir, M, none, 0, 0, [], 0⟩ cb) := Lib.hid (by
    have L := ((Grw.refl w3).alloc (.cells (encRG ⟨ie, ir, M, none, 0, 0, [], 0⟩).toArray 33)).below
    exact ⟨N3.out.later L, RgB.new w3 _, N3.out.bel.size, ⟨⟨rfl, fun h => absurd h (Nat.lt_irrefl 0)⟩, (fun ad e => by cases e), (fun x hx => by cases hx), Nat.zero_le _, hM, (by decide : (0 : Nat) < 18446744073709551616), (fun _ => rfl)⟩, RS.new ie ir M, C4.out.below L C4.out.lt⟩)
  unfold encRG at P4
  simp only at P4
  clear N3 C4
  go_upto_region 7 with fail
  generalize (w3.alloc (.cells #[.int .u64 ie, .int .i64 ir, .int .u64 (M : Int), .slice none 0 0, .int .u64 0] 33)) = w4 at *
  have P5 : Hid (GpSt w w4 g mb (newG ie ir M) w3.heap.size ⟨ie, ir, M, none, 0, 0, [], 0⟩ cb) := Lib.hid P4.out
  obtain ⟨rb, hrb⟩ : ∃ rb, rb = w3.heap.size := ⟨_, rfl⟩
  rw [← hrb] at P5
  try rw [← hrb]
  clear hrb q0 q1 P4
  go_wp2_with fail
  go_loopw [9] (fun si wr => ∃ (i : Nat) (S : Gt) (R : RG), i ≤ n ∧ si = .int .i64 i ∧ Aside (GpSt w wr g mb S rb R cb) ∧ Aside (S.e = ie ∧ S.r = ir ∧ S.M = M)) (fun si _ => n - (intOf si).toNat)
  case atStart => exact ⟨0, _, _, Nat.zero_le _, rfl, P5.out, rfl, rfl, rfl⟩
  case round =>
    clear P5
    obtain ⟨i, S, R, hi, rfl, HP, HS⟩ := hrel
    by_cases hlt : i < n
    · obtain ⟨b, o, e, hr⟩ := HL.out.src (show 0 < n by omega)
      subst e
      obtain ⟨a, ha⟩ : ∃ a, l[i]? = some a := ⟨_, List.getElem?_eq_getElem (by rw [HL.out.size]; exact hlt)⟩
      have hrg := gam_range hr ha
      have HR := Lib.hid (show wr.rangeAt b (o + i * 8) (encGA a) from fun j u hj => cell_later HP.out.a.bel (hrg j u hj))
      have hao := HOK.out a (List.mem_of_getElem? ha)
      have hp := hao.p
      have L4 := ((Grw.refl wr).alloc (.cells (encGA a).toArray 40)).below
      have A4 := Lib.hid (AcB.new wr a)
      have P4 := Lib.hid (HP.out.later L4)
      have HX0 := Lib.hid hao.x
      have HS4 := Lib.hid HS.out
      clear hr ha hrg L4 HP HS hao
      obtain ⟨rd, p, f, oe, op, xa, xn, xc, ct, kn, kp⟩ := a
      unfold encGA at A4 P4
      simp only at A4 P4 HX0 hp
      go_upto_region 12 with (first | (refine load_gam rfl (.tmp 35) rfl b (o + i * 8) ⟨rd, p, ⟨f, oe, op, xa, xn, xc, ct, ⟨kn, kp⟩⟩⟩ rfl HR.out ?_) | fail)
      generalize (wr.alloc (.cells #[.bool rd, .int .i64 p, .int .i64 f, .int .u64 oe, .int .i64 op, .slice xa xn xc, .int .u64 kn, .int .i64 kp] 40)) = w4 at *
      generalize wr.heap.size = ab at *
      clear HR
      have c0 : w4.cell? ⟨ab, 0, none⟩ = some (.bool rd) := A4.out.c0
      cases rd with
      | true =>
        have c1 : w4.cell? ⟨ab, 1, none⟩ = some (.int .i64 p) := A4.out.c1
        have PR := gready P4.out.a.at_ p hp
        go_wp2_with fail
        refine PR.mono ?_
        rintro e w6 ha
        have he := ha.1
        subst he
        have M6 := Lib.hid (P4.out.act ha)
        have A6 := Lib.hid (A4.out.act P4.out.a.at_ ha.2.2)
        clear PR ha A4 P4 c0 c1
        have c1 : w6.cell? ⟨ab, 1, none⟩ = some (.int .i64 p) := A6.out.c1
        have PK := rmake (w := w6) R M6.out.x.m M6.out.x.y p
        go_wp2_with (first | (refine load_rgm rfl (.tmp 8) rfl rb R rfl M6.out.b ?_) | fail)
        refine PK.mono ?_
        rintro e w7 ⟨rfl, B7⟩
        have M7 := Lib.hid (M6.out.later B7)
        clear PK B7 M6 A6 c1
        have HBE := Lib.hid (M7.out.s.readyB M7.out.ok p)
        have P7 := Lib.hid (M7.out.store (mk_x M7.out.x p) (M7.out.s.ready p) (by unfold readyG; split <;> rfl) (by unfold readyG; split <;> rfl))
        have HS2 := Lib.hid (show (readyG S p).e = ie ∧ (readyG S p).r = ir ∧ (readyG S p).M = M by unfold readyG; split <;> exact HS4.out)
        obtain ⟨R2, hR2⟩ : ∃ R2, R2 = mkR R p := ⟨_, rfl⟩
        obtain ⟨S2, hS2⟩ : ∃ S2, S2 = readyG S p := ⟨_, rfl⟩
        rw [HBE.out, ← hR2]
        rw [← hR2, ← hS2] at P7
        rw [← hS2] at HS2
        obtain ⟨b2, hb2⟩ : ∃ b2, b2 = readyB S p := ⟨_, rfl⟩
        rw [← hb2]
        clear hR2 hS2 hb2 HBE HS4
        go_upto_region 17 with (first | (refine store_rgm rfl (.tmp 8) (.tmp 48) rfl rb R2 rfl rfl M7.out.b ?_) | fail)
        clear M7
        generalize (w7.setRow rb (encRG R2).toArray) = w8 at *
        have P8 := Lib.hid P7.out
        clear P7
        have PX := gexch P8.out.a.at_
        go_wp2_with fail
        refine PX.mono ?_
        rintro e w9 ⟨xa, xn, xc, X, rfl, hex⟩
        have P9 := Lib.hid (P8.out.later hex.bel)
        have Z9 := Lib.hid (Spl16.of hex)
        have R9 := Lib.hid (RowX.of hex)
        have HSX := Lib.hid hex.str
        have hxn : xn ≤ 64 := by
          have h1 := congrArg List.length hex.str
          rw [List.length_map, List.length_map] at h1
          have h2 := hex.len
          have h3 : (exL S2).length ≤ 64 := by
            unfold exL exN
            refine Nat.le_trans (List.length_filterMap_le _ _) ?_
            rw [lst_length]; exact card_le _
          omega
        clear PX hex
        have hbb : (b2 != b2) = false := by cases b2 <;> rfl
        go_upto_region 18 with fail
        have D := (Grw.refl w9).drew.below
        have P10 := Lib.hid (P9.out.later D)
        have Z10 := Lib.hid (Z9.out.later D)
        have R10 := Lib.hid (R9.out.later D)
        clear P9 Z9 R9 D
        refine wp_region_held_drew (S := fun V => Below w9.drew.heap.size w9.drew V) (by kernel_rfl) (Below.refl _ _) (fun hHeld => ?_)
        generalize w9.drew = v0 at *
        have Bv0 := Lib.hid (Below.refl v0.heap.size v0)
        have HTR := Lib.hid P10.out.s.tld
        have HDR := Lib.hid (P10.out.s.done P10.out.a.at_.ok)
        have HWR := Lib.hid P10.out.s.wait
        have HER := Lib.hid (show X.map stripX = (exR R2 64).map stripX by rw [P10.out.s.ex P10.out.a.at_.ok]; exact HSX.out)
        obtain ⟨tb, htb⟩ : ∃ tb, tb = toldG S2 := ⟨_, rfl⟩
        obtain ⟨db, hdb⟩ : ∃ db, db = doneG S2 := ⟨_, rfl⟩
        obtain ⟨wv, hwv⟩ : ∃ wv, wv = waitG S2 := ⟨_, rfl⟩
        have HTB := Lib.hid htb
        have HDB := Lib.hid hdb
        have HWV := Lib.hid hwv
        clear htb hdb hwv
        have htt : (tb != tb) = false := by cases tb <;> rfl
        have hdd : (db != db) = false := by cases db <;> rfl
        have hww : ((wv : Int) != (wv : Int)) = false := by simp
        refine stake (i := 0) (v := (.bool b2)) 63 rfl (by kernel_rfl) (by kernel_rfl) (by kernel_rfl) (by kernel_rfl) (fun _ _ _ h => h) (.inl ⟨by kernel_rfl, fun w' hS => by (go_simp)⟩) hHeld ?_
        (try simp only [Act.put, List.setIfInBounds_toArray, List.set_cons_zero, List.set_cons_succ])
        refine stake (i := 1) (v := (.bool b2)) 64 rfl (by kernel_rfl) (by kernel_rfl) (by kernel_rfl) (by kernel_rfl) (fun _ _ _ h => h) (.inl ⟨by kernel_rfl, fun w' hS => by (go_simp)⟩) hHeld ?_
        (try simp only [Act.put, List.setIfInBounds_toArray, List.set_cons_zero, List.set_cons_succ])
        refine stake (i := 2) (v := (.bool false)) 65 rfl (by kernel_rfl) (by kernel_rfl) (by kernel_rfl) (by kernel_rfl) (fun _ _ _ h => h) (.inl ⟨by kernel_rfl, fun w' hS => by (go_simp)⟩) hHeld ?_
        (try simp only [Act.put, List.setIfInBounds_toArray, List.set_cons_zero, List.set_cons_succ])
        refine stake (i := 3) (v := (.bool false)) 66 rfl (by kernel_rfl) (by kernel_rfl) (by kernel_rfl) (by kernel_rfl) (fun _ _ _ h => h) (.inl ⟨by kernel_rfl, fun w' hS => by (go_simp)⟩) hHeld ?_
        (try simp only [Act.put, List.setIfInBounds_toArray, List.set_cons_zero, List.set_cons_succ])
        refine stake (i := 4) (v := (.pointer (some ⟨g, 0, none⟩))) 67 rfl (by kernel_rfl) (by kernel_rfl) (by kernel_rfl) (by kernel_rfl) (fun _ _ _ h => h) (.inl ⟨by kernel_rfl, fun w' hS => by (go_simp)⟩) hHeld ?_
        (try simp only [Act.put, List.setIfInBounds_toArray, List.set_cons_zero, List.set_cons_succ])
        refine stake (i := 6) (v := encRv R2) 69 rfl (by kernel_rfl) (by kernel_rfl) (by kernel_rfl) (by kernel_rfl) (fun _ _ _ h => h) (yields_rgm (by kernel_rfl) (.tmp 8) rfl rb (by kernel_rfl) (fun V h => P10.out.b.below h)) hHeld ?_
        (try simp only [Act.put, List.setIfInBounds_toArray, List.set_cons_zero, List.set_cons_succ])
        have PC := gtold (P10.out.later Bv0.out).a.at_
        rw [← HTB.out] at PC
        refine wpAnyH_ready (rs := [5]) (by kernel_rfl) (by simp) (AllReadyH.cons rfl (fun K hK => ?_) AllReadyH.nil)
        clear hHeld
        rw [if_pos (by kernel_rfl)]
        go_simp
        refine PC.mono ?_
        rintro e1 v1 ⟨rfl, BV⟩
        have Bv1 := Lib.hid (Bv0.out.trans (BV.mono Bv0.out.size))
        refine hK.out _ _ Bv1.out (fun hHeld => ?_)
        clear hK K PC Bv0 BV
        (try simp only [Act.put, List.setIfInBounds_toArray, List.set_cons_zero, List.set_cons_succ])
        have PC := rtold (R := R2) (w := v1) P10.out.x.m
        rw [HTR.out, ← HTB.out] at PC
        refine wpAnyH_ready (rs := [7]) (by kernel_rfl) (by simp) (AllReadyH.cons rfl (fun K hK => ?_) AllReadyH.nil)
        clear hHeld
        rw [if_pos (by kernel_rfl)]
        go_simp
        refine PC.mono ?_
        rintro e1 v2 ⟨rfl, BV⟩
        have Bv2 := Lib.hid (Bv1.out.trans (BV.mono Bv1.out.size))
        refine hK.out _ _ Bv2.out (fun hHeld => ?_)
        clear hK K PC Bv1 BV
        (try simp only [Act.put, List.setIfInBounds_toArray, List.set_cons_zero, List.set_cons_succ])
        refine stake (i := 8) (v := (.bool false)) 71 rfl (by kernel_rfl) (by kernel_rfl) (by kernel_rfl) (by kernel_rfl) (fun _ _ _ h => h) (.inl ⟨by kernel_rfl, fun w' hS => by (go_simp)⟩) hHeld ?_
        (try simp only [Act.put, List.setIfInBounds_toArray, List.set_cons_zero, List.set_cons_succ])
        refine stake (i := 9) (v := (.bool false)) 72 rfl (by kernel_rfl) (by kernel_rfl) (by kernel_rfl) (by kernel_rfl) (fun _ _ _ h => h) (.inl ⟨by kernel_rfl, fun w' hS => by (go_simp)⟩) hHeld ?_
        (try simp only [Act.put, List.setIfInBounds_toArray, List.set_cons_zero, List.set_cons_succ])
        refine stake (i := 10) (v := (.bool false)) 73 rfl (by kernel_rfl) (by kernel_rfl) (by kernel_rfl) (by kernel_rfl) (fun _ _ _ h => h) (.inl ⟨by kernel_rfl, fun w' hS => by (go_simp)⟩) hHeld ?_
        (try simp only [Act.put, List.setIfInBounds_toArray, List.set_cons_zero, List.set_cons_succ])
        refine stake (i := 11) (v := (.pointer (some ⟨g, 0, none⟩))) 74 rfl (by kernel_rfl) (by kernel_rfl) (by kernel_rfl) (by kernel_rfl) (fun _ _ _ h => h) (.inl ⟨by kernel_rfl, fun w' hS => by (go_simp)⟩) hHeld ?_
        (try simp only [Act.put, List.setIfInBounds_toArray, List.set_cons_zero, List.set_cons_succ])
        refine stake (i := 13) (v := encRv R2) 76 rfl (by kernel_rfl) (by kernel_rfl) (by kernel_rfl) (by kernel_rfl) (fun _ _ _ h => h) (yields_rgm (by kernel_rfl) (.tmp 8) rfl rb (by kernel_rfl) (fun V h => P10.out.b.below h)) hHeld ?_
        (try simp only [Act.put, List.setIfInBounds_toArray, List.set_cons_zero, List.set_cons_succ])
        have PC := gdone (P10.out.later Bv2.out).a.at_
        rw [← HDB.out] at PC
        refine wpAnyH_ready (rs := [12]) (by kernel_rfl) (by simp) (AllReadyH.cons rfl (fun K hK => ?_) AllReadyH.nil)
        clear hHeld
        rw [if_pos (by kernel_rfl)]
        go_simp
        refine PC.mono ?_
        rintro e1 v3 ⟨rfl, BV⟩
        have Bv3 := Lib.hid (Bv2.out.trans (BV.mono Bv2.out.size))
        refine hK.out _ _ Bv3.out (fun hHeld => ?_)
        clear hK K PC Bv2 BV
        (try simp only [Act.put, List.setIfInBounds_toArray, List.set_cons_zero, List.set_cons_succ])
        have PC := rdone (R := R2) (w := v3) P10.out.x.m
        rw [HDR.out, ← HDB.out] at PC
        refine wpAnyH_ready (rs := [14]) (by kernel_rfl) (by simp) (AllReadyH.cons rfl (fun K hK => ?_) AllReadyH.nil)
        clear hHeld
        rw [if_pos (by kernel_rfl)]
        go_simp
        refine PC.mono ?_
        rintro e1 v4 ⟨rfl, BV⟩
        have Bv4 := Lib.hid (Bv3.out.trans (BV.mono Bv3.out.size))
        refine hK.out _ _ Bv4.out (fun hHeld => ?_)
        clear hK K PC Bv3 BV
        (try simp only [Act.put, List.setIfInBounds_toArray, List.set_cons_zero, List.set_cons_succ])
        refine stake (i := 15) (v := (.bool false)) 78 rfl (by kernel_rfl) (by kernel_rfl) (by kernel_rfl) (by kernel_rfl) (fun _ _ _ h => h) (.inl ⟨by kernel_rfl, fun w' hS => by (go_simp)⟩) hHeld ?_
        (try simp only [Act.put, List.setIfInBounds_toArray, List.set_cons_zero, List.set_cons_succ])
        refine stake (i := 16) (v := (.bool false)) 79 rfl (by kernel_rfl) (by kernel_rfl) (by kernel_rfl) (by kernel_rfl) (fun _ _ _ h => h) (.inl ⟨by kernel_rfl, fun w' hS => by (go_simp)⟩) hHeld ?_
        (try simp only [Act.put, List.setIfInBounds_toArray, List.set_cons_zero, List.set_cons_succ])
        refine stake (i := 17) (v := (.bool false)) 80 rfl (by kernel_rfl) (by kernel_rfl) (by kernel_rfl) (by kernel_rfl) (fun _ _ _ h => h) (.inl ⟨by kernel_rfl, fun w' hS => by (go_simp)⟩) hHeld ?_
        (try simp only [Act.put, List.setIfInBounds_toArray, List.set_cons_zero, List.set_cons_succ])
        refine stake (i := 18) (v := (.pointer (some ⟨g, 0, none⟩))) 81 rfl (by kernel_rfl) (by kernel_rfl) (by kernel_rfl) (by kernel_rfl) (fun _ _ _ h => h) (.inl ⟨by kernel_rfl, fun w' hS => by (go_simp)⟩) hHeld ?_
        (try simp only [Act.put, List.setIfInBounds_toArray, List.set_cons_zero, List.set_cons_succ])
        refine stake (i := 20) (v := encRv R2) 83 rfl (by kernel_rfl) (by kernel_rfl) (by kernel_rfl) (by kernel_rfl) (fun _ _ _ h => h) (yields_rgm (by kernel_rfl) (.tmp 8) rfl rb (by kernel_rfl) (fun V h => P10.out.b.below h)) hHeld ?_
        (try simp only [Act.put, List.setIfInBounds_toArray, List.set_cons_zero, List.set_cons_succ])
        have PC := gwaits (P10.out.later Bv4.out).a.at_
        rw [← HWV.out] at PC
        refine wpAnyH_ready (rs := [19]) (by kernel_rfl) (by simp) (AllReadyH.cons rfl (fun K hK => ?_) AllReadyH.nil)
        clear hHeld
        rw [if_pos (by kernel_rfl)]
        go_simp
        refine PC.mono ?_
        rintro e1 v5 ⟨rfl, BV⟩
        have Bv5 := Lib.hid (Bv4.out.trans (BV.mono Bv4.out.size))
        refine hK.out _ _ Bv5.out (fun hHeld => ?_)
        clear hK K PC Bv4 BV
        (try simp only [Act.put, List.setIfInBounds_toArray, List.set_cons_zero, List.set_cons_succ])
        have PC := rwaits (w0 := w) (w := v5) R2 (P10.out.x.later Bv5.out)
        rw [HWR.out, ← HWV.out] at PC
        refine wpAnyH_ready (rs := [21]) (by kernel_rfl) (by simp) (AllReadyH.cons rfl (fun K hK => ?_) AllReadyH.nil)
        clear hHeld
        rw [if_pos (by kernel_rfl)]
        go_simp
        refine PC.mono ?_
        rintro e1 v6 ⟨rfl, BV⟩
        have Bv6 := Lib.hid (Bv5.out.trans (BV.mono Bv5.out.size))
        refine hK.out _ _ Bv6.out (fun hHeld => ?_)
        clear hK K PC Bv5 BV
        (try simp only [Act.put, List.setIfInBounds_toArray, List.set_cons_zero, List.set_cons_succ])
        refine stake (i := 22) (v := (.bool false)) 85 rfl (by kernel_rfl) (by kernel_rfl) (by kernel_rfl) (by kernel_rfl) (fun _ _ _ h => h) (.inl ⟨by kernel_rfl, fun w' hS => by (go_simp)⟩) hHeld ?_
        (try simp only [Act.put, List.setIfInBounds_toArray, List.set_cons_zero, List.set_cons_succ])
        refine stake (i := 23) (v := (.bool false)) 86 rfl (by kernel_rfl) (by kernel_rfl) (by kernel_rfl) (by kernel_rfl) (fun _ _ _ h => h) (.inl ⟨by kernel_rfl, fun w' hS => by (go_simp)⟩) hHeld ?_
        (try simp only [Act.put, List.setIfInBounds_toArray, List.set_cons_zero, List.set_cons_succ])
        refine stake (i := 24) (v := (.bool false)) 87 rfl (by kernel_rfl) (by kernel_rfl) (by kernel_rfl) (by kernel_rfl) (fun _ _ _ h => h) (.inl ⟨by kernel_rfl, fun w' hS => by (go_simp)⟩) hHeld ?_
        (try simp only [Act.put, List.setIfInBounds_toArray, List.set_cons_zero, List.set_cons_succ])
        refine stake (i := 25) (v := (.slice xa xn xc)) 88 rfl (by kernel_rfl) (by kernel_rfl) (by kernel_rfl) (by kernel_rfl) (fun _ _ _ h => h) (.inl ⟨by kernel_rfl, fun w' hS => by (go_simp)⟩) hHeld ?_
        (try simp only [Act.put, List.setIfInBounds_toArray, List.set_cons_zero, List.set_cons_succ])
        refine stake (i := 26) (v := encRv R2) 89 rfl (by kernel_rfl) (by kernel_rfl) (by kernel_rfl) (by kernel_rfl) (fun _ _ _ h => h) (yields_rgm (by kernel_rfl) (.tmp 8) rfl rb (by kernel_rfl) (fun V h => P10.out.b.below h)) hHeld ?_
        (try simp only [Act.put, List.setIfInBounds_toArray, List.set_cons_zero, List.set_cons_succ])
        have PC := rexchs (w0 := w) (w := v6) R2 (P10.out.x.later Bv6.out) (P10.out.later Bv6.out).a.bel
        refine wpAnyH_ready (rs := [27]) (by kernel_rfl) (by simp) (AllReadyH.cons rfl (fun K hK => ?_) AllReadyH.nil)
        clear hHeld
        rw [if_pos (by kernel_rfl)]
        go_simp
        refine PC.mono ?_
        rintro e1 v7 ⟨ya, yn, yc, rfl, hfi, BV⟩
        have Bv7 := Lib.hid (Bv6.out.trans (BV.mono Bv6.out.size))
        have HFI := Lib.hid hfi
        have HBX := Lib.hid (P10.out.later Bv7.out).a.bel
        refine hK.out _ _ Bv7.out (fun hHeld => ?_)
        clear hK K PC Bv6 BV hfi
        (try simp only [Act.put, List.setIfInBounds_toArray, List.set_cons_zero, List.set_cons_succ])
        have PC := rexch xa ya xn yn xc yc X (exR R2 64) v7 (R10.out.later Bv7.out).at_ (own_lst' encXg_length HFI.out.len HFI.out.own) (fun x hx => ((R10.out.later Bv7.out).xs x hx).v) (fun y hy => ((HFI.out.xs y hy).below HBX.out).v) (by omega)
        refine wpAnyH_ready (rs := [28]) (by kernel_rfl) (by simp) (AllReadyH.cons rfl (fun K hK => ?_) AllReadyH.nil)
        clear hHeld
        rw [if_pos (by kernel_rfl)]
        go_simp
        refine PC.mono ?_
        rintro e1 v8 ⟨bb, rfl, hbb2, BV⟩
        have hbt := hbb2 HER.out
        subst hbt
        have Bv8 := Lib.hid (Bv7.out.trans (BV.mono Bv7.out.size))
        refine hK.out _ _ Bv8.out (fun hHeld => ?_)
        clear hK K PC Bv7 BV hbb2
        (try simp only [Act.put, List.setIfInBounds_toArray, List.set_cons_zero, List.set_cons_succ])
        refine stake (i := 29) (v := (.bool false)) 92 rfl (by kernel_rfl) (by kernel_rfl) (by kernel_rfl) (by kernel_rfl) (fun _ _ _ h => h) (.inl ⟨by kernel_rfl, fun w' hS => by (go_simp)⟩) hHeld ?_
        (try simp only [Act.put, List.setIfInBounds_toArray, List.set_cons_zero, List.set_cons_succ])
        refine stake (i := 30) (v := (.bool false)) 93 rfl (by kernel_rfl) (by kernel_rfl) (by kernel_rfl) (by kernel_rfl) (fun _ _ _ h => h) (.inl ⟨by kernel_rfl, fun w' hS => by (go_simp)⟩) hHeld ?_
        (try simp only [Act.put, List.setIfInBounds_toArray, List.set_cons_zero, List.set_cons_succ])
        refine wpAnyH_done (by kernel_rfl) ?_ _
        have Z11 := Lib.hid (Z10.out.later Bv8.out)
        clear hHeld hbb htt hdd hww HTR HDR HWR HER HTB HDB HWV HFI HBX P10 Z10 R10 HSX Bv8
        go_wp2_with fail
        go_loopw [14] (fun sk wr => ∃ k : Nat, k ≤ xn ∧ sk = .int .i64 k ∧ Aside (Spl16 w8 wr xa xn X)) (fun sk _ => xn - (intOf sk).toNat)
        case atStart => exact ⟨0, Nat.zero_le _, rfl, Z11.out⟩
        case round =>
          clear Z11
          obtain ⟨k, hk, rfl, HZ⟩ := hrel
          by_cases hlk : k < xn
          · obtain ⟨bx, ox, e, hrx⟩ := HZ.out.at_.src (show 0 < xn by omega)
            subst e
            obtain ⟨x, hx⟩ : ∃ x, X[k]? = some x := ⟨_, List.getElem?_eq_getElem (by rw [HZ.out.at_.size]; exact hlk)⟩
            have HXK := Lib.hid hx
            clear hrx hx
            obtain ⟨yw, ye, yp, ya, yn, yc, yt, jn, jp⟩ := x
            have hyn : yn ≤ 35184372087808 := (HZ.out.num _ (List.mem_of_getElem? HXK.out)).2.2
            go_wp2_with fail
            go_loopw [15] (fun sj wr => ∃ j : Nat, j ≤ yn ∧ sj = .int .i64 j ∧ Aside (Spl16 w8 wr (some ⟨bx, ox, none⟩) xn X)) (fun sj _ => yn - (intOf sj).toNat)
            case atStart => exact ⟨0, Nat.zero_le _, rfl, HZ.out⟩
            case round =>
              clear HZ
              obtain ⟨j, hj, rfl, HZ⟩ := hrel
              obtain ⟨bx2, ox2, e, hrx⟩ := HZ.out.at_.src (show 0 < xn by omega)
              injection e with e
              injection e with e1 e2
              subst e1 e2
              have c3 : wr.cell? ⟨bx, ox + k * 6 + 3, none⟩ = some (.slice ya yn yc) := hrx k _ HXK.out 3 _ rfl
              clear hrx
              by_cases hlj : j < yn
              · have hnm := HZ.out.num _ (List.mem_of_getElem? HXK.out)
                obtain ⟨b, o, e, ⟨cur, hc⟩, hz⟩ := hnm.1.src (show 0 < yn by omega)
                have e : ya = some ⟨b, o, none⟩ := e
                subst e
                have h8 : w8.heap.size ≤ b := hnm.2.1 _ rfl
                obtain ⟨z, cz⟩ := hz j hlj
                clear hnm hz
                have ZN := Lib.hid (HZ.out.later (Grw.refl wr).drew.below)
                have HC := Lib.hid (show wr.drew.heap[b]? = some (.cells cur 52 (0, 0)) from hc)
                have fz : wr.drew.frozen? ⟨b, o + j, none⟩ = false := (show Own wr.drew b 52 cur from hc).free (o + j)
                have H8 := Lib.hid h8
                clear HZ hc h8
                go_upto_region 26 with fail
                go_still_tail 16, (by kernel_rfl)
                change wpList _ _ _ _ _ wr.drew
                have cz2 : wr.drew.cell? ⟨b, o + j, none⟩ = some (.int .u32 z) := cz
                clear c3 cz
                generalize wr.drew = v at *
                go_upto_region 25 with fail
                have ZZ := Lib.hid (ZN.out.set (j := o + j) HC.out H8.out ((z + 1) % 4294967296))
                clear ZN HC H8 fz cz2
                generalize (v.setCell ⟨b, o + j, none⟩ (.int .u32 ((z + 1) % 4294967296))) = v2 at *
                go_wp2
                go_roundw
                case rel => exact ⟨j + 1, by omega, by go_num, ZZ.out⟩
                case measure => simp [intOf]; omega
              · obtain rfl : j = yn := by omega
                have ZZ := Lib.hid HZ.out
                clear HZ
                go_wp2
                go_roundw
                case rel => exact ⟨k + 1, by omega, by go_num, ZZ.out⟩
                case measure => simp [intOf]; omega
          · obtain rfl : k = xn := by omega
            have P12 := Lib.hid (P8.out.later HZ.out.bel)
            clear HZ P8
            go_wp2
            go_roundw
            case rel => exact ⟨i + 1, S2, R2, by omega, by go_num, P12.out, HS2.out⟩
            case measure => simp [intOf]; omega
      | false =>
        have HRX := Lib.hid (show w4.rangeAt ab 2 (encXg ⟨f, oe, op, xa, xn, xc, ct, ⟨kn, kp⟩⟩) from A4.out.rng)
        have PR := gadd P4.out.a.at_ ⟨f, oe, op, xa, xn, xc, ct, ⟨kn, kp⟩⟩ (HX0.out.below P4.out.a.bel)
        unfold encXv encXg at PR
        simp only at PR
        go_wp2_with (first | (refine load_xgm rfl (.tmp 51) rfl ab 2 ⟨f, oe, op, xa, xn, xc, ct, ⟨kn, kp⟩⟩ rfl HRX.out ?_) | fail)
        refine PR.mono ?_
        rintro e w6 ⟨y, hst, ha⟩
        have he := ha.1
        subst he
        have M6 := Lib.hid (P4.out.act ha)
        have A6 := Lib.hid (A4.out.act P4.out.a.at_ ha.2.2)
        have HST := Lib.hid hst
        clear PR ha A4 P4 c0 HRX hst
        have HRX := Lib.hid (show w6.rangeAt ab 2 (encXg ⟨f, oe, op, xa, xn, xc, ct, ⟨kn, kp⟩⟩) from A6.out.rng)
        have PK := radd (w0 := w) (w := w6) R ⟨f, oe, op, xa, xn, xc, ct, ⟨kn, kp⟩⟩ M6.out.x HX0.out (fun h => M6.out.s.lt M6.out.ok h)
        unfold encXv encXg at PK
        simp only at PK
        go_wp2_with (first | (refine load_rgm rfl (.tmp 8) rfl rb R rfl M6.out.b ?_) | (refine load_xgm rfl (.tmp 56) rfl ab 2 ⟨f, oe, op, xa, xn, xc, ct, ⟨kn, kp⟩⟩ rfl HRX.out ?_) | fail)
        refine PK.mono ?_
        rintro e w7 ⟨R2, rfl, hno, hyes, hx2, B7⟩
        have M7 := Lib.hid (M6.out.later B7)
        have hadd := M7.out.s.add HST.out hno hyes
        have HBE := Lib.hid hadd.2
        have P7 := Lib.hid (M7.out.store hx2 hadd.1 (by unfold addG; split <;> rfl) (by unfold addG; split <;> rfl))
        have HS2 := Lib.hid (show (addG S y).e = ie ∧ (addG S y).r = ir ∧ (addG S y).M = M by unfold addG; split <;> exact HS4.out)
        clear PK B7 M6 A6 hno hyes hx2 hadd HRX HST
        obtain ⟨S2, hS2⟩ : ∃ S2, S2 = addG S y := ⟨_, rfl⟩
        rw [HBE.out]
        rw [← hS2] at P7 HS2
        obtain ⟨b2, hb2⟩ : ∃ b2, b2 = addB S ⟨f, oe, op, xa, xn, xc, ct, ⟨kn, kp⟩⟩ := ⟨_, rfl⟩
        rw [← hb2]
        clear hS2 hb2 HBE HS4 HX0
        go_upto_region 17 with (first | (refine store_rgm rfl (.tmp 8) (.tmp 59) rfl rb R2 rfl rfl M7.out.b ?_) | fail)
        clear M7
        generalize (w7.setRow rb (encRG R2).toArray) = w8 at *
        have P8 := Lib.hid P7.out
        clear P7
        have PX := gexch P8.out.a.at_
        go_wp2_with fail
        refine PX.mono ?_
        rintro e w9 ⟨xa, xn, xc, X, rfl, hex⟩
        have P9 := Lib.hid (P8.out.later hex.bel)
        have Z9 := Lib.hid (Spl16.of hex)
        have R9 := Lib.hid (RowX.of hex)
        have HSX := Lib.hid hex.str
        have hxn : xn ≤ 64 := by
          have h1 := congrArg List.length hex.str
          rw [List.length_map, List.length_map] at h1
          have h2 := hex.len
          have h3 : (exL S2).length ≤ 64 := by
            unfold exL exN
            refine Nat.le_trans (List.length_filterMap_le _ _) ?_
            rw [lst_length]; exact card_le _
          omega
        clear PX hex
        have hbb : (b2 != b2) = false := by cases b2 <;> rfl
        go_upto_region 18 with fail
        have D := (Grw.refl w9).drew.below
        have P10 := Lib.hid (P9.out.later D)
        have Z10 := Lib.hid (Z9.out.later D)
        have R10 := Lib.hid (R9.out.later D)
        clear P9 Z9 R9 D
        refine wp_region_held_drew (S := fun V => Below w9.drew.heap.size w9.drew V) (by kernel_rfl) (Below.refl _ _) (fun hHeld => ?_)
        generalize w9.drew = v0 at *
        have Bv0 := Lib.hid (Below.refl v0.heap.size v0)
        have HTR := Lib.hid P10.out.s.tld
        have HDR := Lib.hid (P10.out.s.done P10.out.a.at_.ok)
        have HWR := Lib.hid P10.out.s.wait
        have HER := Lib.hid (show X.map stripX = (exR R2 64).map stripX by rw [P10.out.s.ex P10.out.a.at_.ok]; exact HSX.out)
        obtain ⟨tb, htb⟩ : ∃ tb, tb = toldG S2 := ⟨_, rfl⟩
        obtain ⟨db, hdb⟩ : ∃ db, db = doneG S2 := ⟨_, rfl⟩
        obtain ⟨wv, hwv⟩ : ∃ wv, wv = waitG S2 := ⟨_, rfl⟩
        have HTB := Lib.hid htb
        have HDB := Lib.hid hdb
        have HWV := Lib.hid hwv
        clear htb hdb hwv
        have htt : (tb != tb) = false := by cases tb <;> rfl
        have hdd : (db != db) = false := by cases db <;> rfl
        have hww : ((wv : Int) != (wv : Int)) = false := by simp
        refine stake (i := 0) (v := (.bool b2)) 63 rfl (by kernel_rfl) (by kernel_rfl) (by kernel_rfl) (by kernel_rfl) (fun _ _ _ h => h) (.inl ⟨by kernel_rfl, fun w' hS => by (go_simp)⟩) hHeld ?_
        (try simp only [Act.put, List.setIfInBounds_toArray, List.set_cons_zero, List.set_cons_succ])
        refine stake (i := 1) (v := (.bool b2)) 64 rfl (by kernel_rfl) (by kernel_rfl) (by kernel_rfl) (by kernel_rfl) (fun _ _ _ h => h) (.inl ⟨by kernel_rfl, fun w' hS => by (go_simp)⟩) hHeld ?_
        (try simp only [Act.put, List.setIfInBounds_toArray, List.set_cons_zero, List.set_cons_succ])
        refine stake (i := 2) (v := (.bool false)) 65 rfl (by kernel_rfl) (by kernel_rfl) (by kernel_rfl) (by kernel_rfl) (fun _ _ _ h => h) (.inl ⟨by kernel_rfl, fun w' hS => by (go_simp)⟩) hHeld ?_
        (try simp only [Act.put, List.setIfInBounds_toArray, List.set_cons_zero, List.set_cons_succ])
        refine stake (i := 3) (v := (.bool false)) 66 rfl (by kernel_rfl) (by kernel_rfl) (by kernel_rfl) (by kernel_rfl) (fun _ _ _ h => h) (.inl ⟨by kernel_rfl, fun w' hS => by (go_simp)⟩) hHeld ?_
        (try simp only [Act.put, List.setIfInBounds_toArray, List.set_cons_zero, List.set_cons_succ])
        refine stake (i := 4) (v := (.pointer (some ⟨g, 0, none⟩))) 67 rfl (by kernel_rfl) (by kernel_rfl) (by kernel_rfl) (by kernel_rfl) (fun _ _ _ h => h) (.inl ⟨by kernel_rfl, fun w' hS => by (go_simp)⟩) hHeld ?_
        (try simp only [Act.put, List.setIfInBounds_toArray, List.set_cons_zero, List.set_cons_succ])
        refine stake (i := 6) (v := encRv R2) 69 rfl (by kernel_rfl) (by kernel_rfl) (by kernel_rfl) (by kernel_rfl) (fun _ _ _ h => h) (yields_rgm (by kernel_rfl) (.tmp 8) rfl rb (by kernel_rfl) (fun V h => P10.out.b.below h)) hHeld ?_
        (try simp only [Act.put, List.setIfInBounds_toArray, List.set_cons_zero, List.set_cons_succ])
        have PC := gtold (P10.out.later Bv0.out).a.at_
        rw [← HTB.out] at PC
        refine wpAnyH_ready (rs := [5]) (by kernel_rfl) (by simp) (AllReadyH.cons rfl (fun K hK => ?_) AllReadyH.nil)
        clear hHeld
        rw [if_pos (by kernel_rfl)]
        go_simp
        refine PC.mono ?_
        rintro e1 v1 ⟨rfl, BV⟩
        have Bv1 := Lib.hid (Bv0.out.trans (BV.mono Bv0.out.size))
        refine hK.out _ _ Bv1.out (fun hHeld => ?_)
        clear hK K PC Bv0 BV
        (try simp only [Act.put, List.setIfInBounds_toArray, List.set_cons_zero, List.set_cons_succ])
        have PC := rtold (R := R2) (w := v1) P10.out.x.m
        rw [HTR.out, ← HTB.out] at PC
        refine wpAnyH_ready (rs := [7]) (by kernel_rfl) (by simp) (AllReadyH.cons rfl (fun K hK => ?_) AllReadyH.nil)
        clear hHeld
        rw [if_pos (by kernel_rfl)]
        go_simp
        refine PC.mono ?_
        rintro e1 v2 ⟨rfl, BV⟩
        have Bv2 := Lib.hid (Bv1.out.trans (BV.mono Bv1.out.size))
        refine hK.out _ _ Bv2.out (fun hHeld => ?_)
        clear hK K PC Bv1 BV
        (try simp only [Act.put, List.setIfInBounds_toArray, List.set_cons_zero, List.set_cons_succ])
        refine stake (i := 8) (v := (.bool false)) 71 rfl (by kernel_rfl) (by kernel_rfl) (by kernel_rfl) (by kernel_rfl) (fun _ _ _ h => h) (.inl ⟨by kernel_rfl, fun w' hS => by (go_simp)⟩) hHeld ?_
        (try simp only [Act.put, List.setIfInBounds_toArray, List.set_cons_zero, List.set_cons_succ])
        refine stake (i := 9) (v := (.bool false)) 72 rfl (by kernel_rfl) (by kernel_rfl) (by kernel_rfl) (by kernel_rfl) (fun _ _ _ h => h) (.inl ⟨by kernel_rfl, fun w' hS => by (go_simp)⟩) hHeld ?_
        (try simp only [Act.put, List.setIfInBounds_toArray, List.set_cons_zero, List.set_cons_succ])
        refine stake (i := 10) (v := (.bool false)) 73 rfl (by kernel_rfl) (by kernel_rfl) (by kernel_rfl) (by kernel_rfl) (fun _ _ _ h => h) (.inl ⟨by kernel_rfl, fun w' hS => by (go_simp)⟩) hHeld ?_
        (try simp only [Act.put, List.setIfInBounds_toArray, List.set_cons_zero, List.set_cons_succ])
        refine stake (i := 11) (v := (.pointer (some ⟨g, 0, none⟩))) 74 rfl (by kernel_rfl) (by kernel_rfl) (by kernel_rfl) (by kernel_rfl) (fun _ _ _ h => h) (.inl ⟨by kernel_rfl, fun w' hS => by (go_simp)⟩) hHeld ?_
        (try simp only [Act.put, List.setIfInBounds_toArray, List.set_cons_zero, List.set_cons_succ])
        refine stake (i := 13) (v := encRv R2) 76 rfl (by kernel_rfl) (by kernel_rfl) (by kernel_rfl) (by kernel_rfl) (fun _ _ _ h => h) (yields_rgm (by kernel_rfl) (.tmp 8) rfl rb (by kernel_rfl) (fun V h => P10.out.b.below h)) hHeld ?_
        (try simp only [Act.put, List.setIfInBounds_toArray, List.set_cons_zero, List.set_cons_succ])
        have PC := gdone (P10.out.later Bv2.out).a.at_
        rw [← HDB.out] at PC
        refine wpAnyH_ready (rs := [12]) (by kernel_rfl) (by simp) (AllReadyH.cons rfl (fun K hK => ?_) AllReadyH.nil)
        clear hHeld
        rw [if_pos (by kernel_rfl)]
        go_simp
        refine PC.mono ?_
        rintro e1 v3 ⟨rfl, BV⟩
        have Bv3 := Lib.hid (Bv2.out.trans (BV.mono Bv2.out.size))
        refine hK.out _ _ Bv3.out (fun hHeld => ?_)
        clear hK K PC Bv2 BV
        (try simp only [Act.put, List.setIfInBounds_toArray, List.set_cons_zero, List.set_cons_succ])
        have PC := rdone (R := R2) (w := v3) P10.out.x.m
        rw [HDR.out, ← HDB.out] at PC
        refine wpAnyH_ready (rs := [14]) (by kernel_rfl) (by simp) (AllReadyH.cons rfl (fun K hK => ?_) AllReadyH.nil)
        clear hHeld
        rw [if_pos (by kernel_rfl)]
        go_simp
        refine PC.mono ?_
        rintro e1 v4 ⟨rfl, BV⟩
        have Bv4 := Lib.hid (Bv3.out.trans (BV.mono Bv3.out.size))
        refine hK.out _ _ Bv4.out (fun hHeld => ?_)
        clear hK K PC Bv3 BV
        (try simp only [Act.put, List.setIfInBounds_toArray, List.set_cons_zero, List.set_cons_succ])
        refine stake (i := 15) (v := (.bool false)) 78 rfl (by kernel_rfl) (by kernel_rfl) (by kernel_rfl) (by kernel_rfl) (fun _ _ _ h => h) (.inl ⟨by kernel_rfl, fun w' hS => by (go_simp)⟩) hHeld ?_
        (try simp only [Act.put, List.setIfInBounds_toArray, List.set_cons_zero, List.set_cons_succ])
        refine stake (i := 16) (v := (.bool false)) 79 rfl (by kernel_rfl) (by kernel_rfl) (by kernel_rfl) (by kernel_rfl) (fun _ _ _ h => h) (.inl ⟨by kernel_rfl, fun w' hS => by (go_simp)⟩) hHeld ?_
        (try simp only [Act.put, List.setIfInBounds_toArray, List.set_cons_zero, List.set_cons_succ])
        refine stake (i := 17) (v := (.bool false)) 80 rfl (by kernel_rfl) (by kernel_rfl) (by kernel_rfl) (by kernel_rfl) (fun _ _ _ h => h) (.inl ⟨by kernel_rfl, fun w' hS => by (go_simp)⟩) hHeld ?_
        (try simp only [Act.put, List.setIfInBounds_toArray, List.set_cons_zero, List.set_cons_succ])
        refine stake (i := 18) (v := (.pointer (some ⟨g, 0, none⟩))) 81 rfl (by kernel_rfl) (by kernel_rfl) (by kernel_rfl) (by kernel_rfl) (fun _ _ _ h => h) (.inl ⟨by kernel_rfl, fun w' hS => by (go_simp)⟩) hHeld ?_
        (try simp only [Act.put, List.setIfInBounds_toArray, List.set_cons_zero, List.set_cons_succ])
        refine stake (i := 20) (v := encRv R2) 83 rfl (by kernel_rfl) (by kernel_rfl) (by kernel_rfl) (by kernel_rfl) (fun _ _ _ h => h) (yields_rgm (by kernel_rfl) (.tmp 8) rfl rb (by kernel_rfl) (fun V h => P10.out.b.below h)) hHeld ?_
        (try simp only [Act.put, List.setIfInBounds_toArray, List.set_cons_zero, List.set_cons_succ])
        have PC := gwaits (P10.out.later Bv4.out).a.at_
        rw [← HWV.out] at PC
        refine wpAnyH_ready (rs := [19]) (by kernel_rfl) (by simp) (AllReadyH.cons rfl (fun K hK => ?_) AllReadyH.nil)
        clear hHeld
        rw [if_pos (by kernel_rfl)]
        go_simp
        refine PC.mono ?_
        rintro e1 v5 ⟨rfl, BV⟩
        have Bv5 := Lib.hid (Bv4.out.trans (BV.mono Bv4.out.size))
        refine hK.out _ _ Bv5.out (fun hHeld => ?_)
        clear hK K PC Bv4 BV
        (try simp only [Act.put, List.setIfInBounds_toArray, List.set_cons_zero, List.set_cons_succ])
        have PC := rwaits (w0 := w) (w := v5) R2 (P10.out.x.later Bv5.out)
        rw [HWR.out, ← HWV.out] at PC
        refine wpAnyH_ready (rs := [21]) (by kernel_rfl) (by simp) (AllReadyH.cons rfl (fun K hK => ?_) AllReadyH.nil)
        clear hHeld
        rw [if_pos (by kernel_rfl)]
        go_simp
        refine PC.mono ?_
        rintro e1 v6 ⟨rfl, BV⟩
        have Bv6 := Lib.hid (Bv5.out.trans (BV.mono Bv5.out.size))
        refine hK.out _ _ Bv6.out (fun hHeld => ?_)
        clear hK K PC Bv5 BV
        (try simp only [Act.put, List.setIfInBounds_toArray, List.set_cons_zero, List.set_cons_succ])
        refine stake (i := 22) (v := (.bool false)) 85 rfl (by kernel_rfl) (by kernel_rfl) (by kernel_rfl) (by kernel_rfl) (fun _ _ _ h => h) (.inl ⟨by kernel_rfl, fun w' hS => by (go_simp)⟩) hHeld ?_
        (try simp only [Act.put, List.setIfInBounds_toArray, List.set_cons_zero, List.set_cons_succ])
        refine stake (i := 23) (v := (.bool false)) 86 rfl (by kernel_rfl) (by kernel_rfl) (by kernel_rfl) (by kernel_rfl) (fun _ _ _ h => h) (.inl ⟨by kernel_rfl, fun w' hS => by (go_simp)⟩) hHeld ?_
        (try simp only [Act.put, List.setIfInBounds_toArray, List.set_cons_zero, List.set_cons_succ])
        refine stake (i := 24) (v := (.bool false)) 87 rfl (by kernel_rfl) (by kernel_rfl) (by kernel_rfl) (by kernel_rfl) (fun _ _ _ h => h) (.inl ⟨by kernel_rfl, fun w' hS => by (go_simp)⟩) hHeld ?_
        (try simp only [Act.put, List.setIfInBounds_toArray, List.set_cons_zero, List.set_cons_succ])
        refine stake (i := 25) (v := (.slice xa xn xc)) 88 rfl (by kernel_rfl) (by kernel_rfl) (by kernel_rfl) (by kernel_rfl) (fun _ _ _ h => h) (.inl ⟨by kernel_rfl, fun w' hS => by (go_simp)⟩) hHeld ?_
        (try simp only [Act.put, List.setIfInBounds_toArray, List.set_cons_zero, List.set_cons_succ])
        refine stake (i := 26) (v := encRv R2) 89 rfl (by kernel_rfl) (by kernel_rfl) (by kernel_rfl) (by kernel_rfl) (fun _ _ _ h => h) (yields_rgm (by kernel_rfl) (.tmp 8) rfl rb (by kernel_rfl) (fun V h => P10.out.b.below h)) hHeld ?_
        (try simp only [Act.put, List.setIfInBounds_toArray, List.set_cons_zero, List.set_cons_succ])
        have PC := rexchs (w0 := w) (w := v6) R2 (P10.out.x.later Bv6.out) (P10.out.later Bv6.out).a.bel
        refine wpAnyH_ready (rs := [27]) (by kernel_rfl) (by simp) (AllReadyH.cons rfl (fun K hK => ?_) AllReadyH.nil)
        clear hHeld
        rw [if_pos (by kernel_rfl)]
        go_simp
        refine PC.mono ?_
        rintro e1 v7 ⟨ya, yn, yc, rfl, hfi, BV⟩
        have Bv7 := Lib.hid (Bv6.out.trans (BV.mono Bv6.out.size))
        have HFI := Lib.hid hfi
        have HBX := Lib.hid (P10.out.later Bv7.out).a.bel
        refine hK.out _ _ Bv7.out (fun hHeld => ?_)
        clear hK K PC Bv6 BV hfi
        (try simp only [Act.put, List.setIfInBounds_toArray, List.set_cons_zero, List.set_cons_succ])
        have PC := rexch xa ya xn yn xc yc X (exR R2 64) v7 (R10.out.later Bv7.out).at_ (own_lst' encXg_length HFI.out.len HFI.out.own) (fun x hx => ((R10.out.later Bv7.out).xs x hx).v) (fun y hy => ((HFI.out.xs y hy).below HBX.out).v) (by omega)
        refine wpAnyH_ready (rs := [28]) (by kernel_rfl) (by simp) (AllReadyH.cons rfl (fun K hK => ?_) AllReadyH.nil)
        clear hHeld
        rw [if_pos (by kernel_rfl)]
        go_simp
        refine PC.mono ?_
        rintro e1 v8 ⟨bb, rfl, hbb2, BV⟩
        have hbt := hbb2 HER.out
        subst hbt
        have Bv8 := Lib.hid (Bv7.out.trans (BV.mono Bv7.out.size))
        refine hK.out _ _ Bv8.out (fun hHeld => ?_)
        clear hK K PC Bv7 BV hbb2
        (try simp only [Act.put, List.setIfInBounds_toArray, List.set_cons_zero, List.set_cons_succ])
        refine stake (i := 29) (v := (.bool false)) 92 rfl (by kernel_rfl) (by kernel_rfl) (by kernel_rfl) (by kernel_rfl) (fun _ _ _ h => h) (.inl ⟨by kernel_rfl, fun w' hS => by (go_simp)⟩) hHeld ?_
        (try simp only [Act.put, List.setIfInBounds_toArray, List.set_cons_zero, List.set_cons_succ])
        refine stake (i := 30) (v := (.bool false)) 93 rfl (by kernel_rfl) (by kernel_rfl) (by kernel_rfl) (by kernel_rfl) (fun _ _ _ h => h) (.inl ⟨by kernel_rfl, fun w' hS => by (go_simp)⟩) hHeld ?_
        (try simp only [Act.put, List.setIfInBounds_toArray, List.set_cons_zero, List.set_cons_succ])
        refine wpAnyH_done (by kernel_rfl) ?_ _
        have Z11 := Lib.hid (Z10.out.later Bv8.out)
        clear hHeld hbb htt hdd hww HTR HDR HWR HER HTB HDB HWV HFI HBX P10 Z10 R10 HSX Bv8
        go_wp2_with fail
        go_loopw [14] (fun sk wr => ∃ k : Nat, k ≤ xn ∧ sk = .int .i64 k ∧ Aside (Spl16 w8 wr xa xn X)) (fun sk _ => xn - (intOf sk).toNat)
        case atStart => exact ⟨0, Nat.zero_le _, rfl, Z11.out⟩
        case round =>
          clear Z11
          obtain ⟨k, hk, rfl, HZ⟩ := hrel
          by_cases hlk : k < xn
          · obtain ⟨bx, ox, e, hrx⟩ := HZ.out.at_.src (show 0 < xn by omega)
            subst e
            obtain ⟨x, hx⟩ : ∃ x, X[k]? = some x := ⟨_, List.getElem?_eq_getElem (by rw [HZ.out.at_.size]; exact hlk)⟩
            have HXK := Lib.hid hx
            clear hrx hx
            obtain ⟨yw, ye, yp, ya, yn, yc, yt, jn, jp⟩ := x
            have hyn : yn ≤ 35184372087808 := (HZ.out.num _ (List.mem_of_getElem? HXK.out)).2.2
            go_wp2_with fail
            go_loopw [15] (fun sj wr => ∃ j : Nat, j ≤ yn ∧ sj = .int .i64 j ∧ Aside (Spl16 w8 wr (some ⟨bx, ox, none⟩) xn X)) (fun sj _ => yn - (intOf sj).toNat)
            case atStart => exact ⟨0, Nat.zero_le _, rfl, HZ.out⟩
            case round =>
              clear HZ
              obtain ⟨j, hj, rfl, HZ⟩ := hrel
              obtain ⟨bx2, ox2, e, hrx⟩ := HZ.out.at_.src (show 0 < xn by omega)
              injection e with e
              injection e with e1 e2
              subst e1 e2
              have c3 : wr.cell? ⟨bx, ox + k * 6 + 3, none⟩ = some (.slice ya yn yc) := hrx k _ HXK.out 3 _ rfl
              clear hrx
              by_cases hlj : j < yn
              · have hnm := HZ.out.num _ (List.mem_of_getElem? HXK.out)
                obtain ⟨b, o, e, ⟨cur, hc⟩, hz⟩ := hnm.1.src (show 0 < yn by omega)
                have e : ya = some ⟨b, o, none⟩ := e
                subst e
                have h8 : w8.heap.size ≤ b := hnm.2.1 _ rfl
                obtain ⟨z, cz⟩ := hz j hlj
                clear hnm hz
                have ZN := Lib.hid (HZ.out.later (Grw.refl wr).drew.below)
                have HC := Lib.hid (show wr.drew.heap[b]? = some (.cells cur 52 (0, 0)) from hc)
                have fz : wr.drew.frozen? ⟨b, o + j, none⟩ = false := (show Own wr.drew b 52 cur from hc).free (o + j)
                have H8 := Lib.hid h8
                clear HZ hc h8
                go_upto_region 26 with fail
                go_still_tail 16, (by kernel_rfl)
                change wpList _ _ _ _ _ wr.drew
                have cz2 : wr.drew.cell? ⟨b, o + j, none⟩ = some (.int .u32 z) := cz
                clear c3 cz
                generalize wr.drew = v at *
                go_upto_region 25 with fail
                have ZZ := Lib.hid (ZN.out.set (j := o + j) HC.out H8.out ((z + 1) % 4294967296))
                clear ZN HC H8 fz cz2
                generalize (v.setCell ⟨b, o + j, none⟩ (.int .u32 ((z + 1) % 4294967296))) = v2 at *
                go_wp2
                go_roundw
                case rel => exact ⟨j + 1, by omega, by go_num, ZZ.out⟩
                case measure => simp [intOf]; omega
              · obtain rfl : j = yn := by omega
                have ZZ := Lib.hid HZ.out
                clear HZ
                go_wp2
                go_roundw
                case rel => exact ⟨k + 1, by omega, by go_num, ZZ.out⟩
                case measure => simp [intOf]; omega
          · obtain rfl : k = xn := by omega
            have P12 := Lib.hid (P8.out.later HZ.out.bel)
            clear HZ P8
            go_wp2
            go_roundw
            case rel => exact ⟨i + 1, S2, R2, by omega, by go_num, P12.out, HS2.out⟩
            case measure => simp [intOf]; omega
    · obtain rfl : i = n := by omega
      have HS5 := HS.out
      have P6 := Lib.hid HP.out
      clear HP HS
      obtain ⟨s1, s2, s3⟩ := HS5
      have K0 : Hid (∀ n' os', Calls Tryd.prog 24 #[.pointer (some ⟨g, 0, none⟩)] (grow (atD wr n') os') fun e w'' => e = .returned (.agg #[.int .u64 ie, .int .i64 ir]) ∧ Below (grow (atD wr n') os').heap.size (grow (atD wr n') os') w'') := Lib.hid (fun n' os' => by
        have h := gid (P6.out.a.in_ n' os')
        rw [s1, s2] at h
        exact h)
      have K1 : Hid (∀ n' os', Calls Tryd.prog 25 #[.pointer (some ⟨g, 0, none⟩)] (grow (atD wr n') os') fun e w'' => e = .returned (.int .u64 (M : Int)) ∧ Below (grow (atD wr n') os').heap.size (grow (atD wr n') os') w'') := Lib.hid (fun n' os' => by
        have h := gmembers (P6.out.a.in_ n' os')
        rw [s3] at h
        exact h.mono fun e w'' ⟨h1, h2⟩ => ⟨h1, by rw [← h2]; exact Below.refl _ _⟩)
      have hcl := P6.out.c.lt
      have q0 : wr.cell? ⟨cb, 0, none⟩ = some (.int .u64 ie) := by rw [← s1]; exact P6.out.c.at_ 0 _ rfl
      have q1 : wr.cell? ⟨cb, 1, none⟩ = some (.int .i64 ir) := by rw [← s2]; exact P6.out.c.at_ 1 _ rfl
      have u0 := fun n' os' => cell_form hcl q0 n' os'
      have u1 := fun n' os' => cell_form hcl q1 n' os'
      have hE : ∀ W, (Op.equalIn 10000 24 (.agg #[.int .u64 ie, .int .i64 ir]) (.agg #[.int .u64 ie, .int .i64 ir])).run Tryd.prog W = .ok true W := by
        intro W
        have h := eql_conf16 9998 ie ir ie ir W
        rw [decide_eq_true rfl, decide_eq_true rfl] at h
        exact h
      have hmm : ((M : Int) == (M : Int)) = true := by simp
      clear s1 s2 s3 q0 q1
      go_upto_region 27 with fail
      refine wp_region_quiet_below (by kernel_rfl) (by kernel_rfl) ?_
      repeat (quiet_step (first | (go_at_call 24; exact calls_below (K0.out _ _)) | (go_at_call 25; exact calls_below (K1.out _ _))))
      refine wpQuiet_nil ?_
      intro _ hw'
      obtain ⟨⟨nq, osq⟩, hw''⟩ := hw'
      subst hw''
      have HB2 := Lib.hid (P6.out.a.bel.trans ((below_of_form wr nq osq).mono P6.out.a.bel.size))
      clear K0 K1 P6 hE u0 u1
      generalize (grow (atD wr nq) osq) = w2 at *
      go_wp2
      go_ret
      exact ⟨rfl, HB2.out⟩
theorem walk_GatherPlays {w : World} (ie ir : Int) (M : Int) (wM : (Lit.int .u64 M).wf = true) (so : Option Addr) (n c : Nat) (l : List GA) (hl : Lst encGA 8 w so n l ∧ (∀ a ∈ l, a.ok w) ∧ n ≤ 1759218604390) (hTab : Tab w) :
    Calls Tryd.prog 3 #[.agg #[.int .u64 ie, .int .i64 ir], .int .u64 M, .slice so n c] w fun e w' => e = .returned (.bool true) ∧ Below w.heap.size w w' := by
  have b1 := Go.bounds_u64 wM
  obtain ⟨M, rfl⟩ := Int.eq_ofNat_of_zero_le b1.1
  exact plays_core ie ir M (by omega) so n c l w hl.1 hl.2.1 hl.2.2 hTab
end Go.Proofs.YtmaiphgmnammgaaDoor
