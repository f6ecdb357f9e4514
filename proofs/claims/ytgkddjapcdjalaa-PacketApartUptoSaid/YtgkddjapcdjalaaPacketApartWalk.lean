/- The walk of 'PacketApart'. (Written by wip/gen_packetapart.py.) -/
import Derived.Test.YtgkddjapcdjalaaPkAwake
import Derived.Test.YtgkddjapcdjalaaPkSames
import Derived.Test.YtgkddjapcdjalaaCleans
import Derived.Test.YtgkddjapcdjalaaRcAll
import Derived.Test.YtgkddjapcdjalaaPkHeld
import Derived.Test.YtgkddjapcdjalaaPkFew
import Derived.Test.YtgkddjapcdjalaaApart
import Derived.StillTailTactics
set_option linter.unusedVariables false
set_option linter.unusedSimpArgs false
namespace Go.Proofs.Ytgkddjapcdjalaa
open Go.RowKit Go.Sort

set_option maxHeartbeats 8000000 in
set_option maxRecDepth 100000 in
theorem walk_PacketApart (w : World) (p : Pk) (T : ByteArray) (vd vg vx : Vc) (ht : PkAt w p T vd vg vx) (hty : p.typed) (hsm : Small p) :
    Calls Try.prog 6 #[.agg (encP p T vd vg vx).toArray] w fun e w' => e = .returned (.bool true) ∧ Below w.heap.size w w' := by
  have HTy := Lib.hid hty
  have HM := Lib.hid hsm
  rw [show (encP p T vd vg vx).toArray = #[.int .i64 p.kind, .int .i64 p.frm, .int .i64 p.to, .int .u64 (p.conf.e : Int), .int .i64 p.conf.r, .int .i64 p.m.f, .int .u32 (p.m.q : Int), .int .u64 (p.m.s : Int), .int .i64 p.m.v, .slice vd.a vd.n vd.c, .string T, .int .u64 (p.stamp : Int), .int .u32 (p.sent : Int), .slice vg.a vg.n vg.c, .int .u64 (p.hor : Int), .int .i64 p.whom, .int .u32 (p.seq : Int), .int .u64 (p.mem : Int), .int .u64 (p.prom.e : Int), .int .i64 p.prom.r, .int .u64 (p.epoch : Int), .slice vx.a vx.n vx.c] from rfl]
  have O0 := Own.new w 35 (encP p T vd vg vx).toArray
  have G0 := (Grw.refl w).alloc (.cells (encP p T vd vg vx).toArray 35)
  obtain ⟨W, hW⟩ : ∃ W, W = w.alloc (.cells (encP p T vd vg vx).toArray 35) := ⟨_, rfl⟩
  rw [← hW] at O0 G0
  have A0 := ht.below G0.below
  have B0 := G0.below
  have hlt0 := O0.lt
  have HW := Lib.hid hW
  clear ht hty hsm G0 hW
  go_enter Try.func6, Try.ntmps6
  go_upto_region 1 with fail
  rw [show w.alloc (.cells #[.int .i64 p.kind, .int .i64 p.frm, .int .i64 p.to, .int .u64 (p.conf.e : Int), .int .i64 p.conf.r, .int .i64 p.m.f, .int .u32 (p.m.q : Int), .int .u64 (p.m.s : Int), .int .i64 p.m.v, .slice vd.a vd.n vd.c, .string T, .int .u64 (p.stamp : Int), .int .u32 (p.sent : Int), .slice vg.a vg.n vg.c, .int .u64 (p.hor : Int), .int .i64 p.whom, .int .u32 (p.seq : Int), .int .u64 (p.mem : Int), .int .u64 (p.prom.e : Int), .int .i64 p.prom.r, .int .u64 (p.epoch : Int), .slice vx.a vx.n vx.c] 35) = W from HW.out.symm]
  clear HW
  go_wp2_with fail
  refine (pkAwake_any _).mono ?_
  rintro e w1 ⟨rfl, L1⟩
  have O1 := O0.below L1 hlt0
  have A1 := A0.below L1
  have B1 := B0.trans (L1.mono B0.size)
  clear O0 A0 B0 hlt0 L1
  have hlt1 := O1.lt
  go_upto_region 3 with fail
  go_wp2_with (refine load_packet rfl (.tmp 1) rfl w.heap.size rfl O1 ?_)
  refine (pkFew w1 p T vd vg vx A1 HM.out).mono ?_
  rintro e w2 ⟨⟨b, rfl⟩, G2⟩
  have O2 := O1.below G2.below hlt1
  have A2 := A1.below G2.below
  have B2 := B1.trans (G2.below.mono B1.size)
  clear O1 A1 B1 hlt1 G2
  have hlt2 := O2.lt
  cases b
  · go_wp2
    go_ret
    exact ⟨rfl, B2⟩
  go_upto_region 5 with fail
  go_wp2_with (refine load_packet rfl (.tmp 1) rfl w.heap.size rfl O2 ?_)
  refine (pclean w2 p T vd vg vx A2 HM.out).mono ?_
  rintro e w3 ⟨T3, ud, ug, ux, rfl, OC3, L3⟩
  go_upto_region 6 with (refine store_packet (p := cleanP p) (T := T3) (vd := ud) (vg := ug) (vx := ux) rfl (.tmp 3) (.tmp 14) rfl w3.heap.size rfl rfl (boxed_new w3) ?_)
  rw [boxed_is]
  have P4 := boxed_own w3 (cleanP p) T3 ud ug ux
  have L4 := boxed_below w3 (cleanP p) T3 ud ug ux
  have C4 := OC3.below L4
  have LB : Go.RowKit.Below w2.heap.size w2 (boxed w3 (cleanP p) T3 ud ug ux) := L3.trans (L4.mono L3.size)
  have cs := clean_small HM.out
  have S4 : ApSt w2.heap.size w2 (boxed w3 (cleanP p) T3 ud ug ux) w3.heap.size (cleanP p) T3 ud ug ux := ⟨P4, LB, WV.of C4.deps cs.deps, WV.of C4.got cs.got, WX.of C4.xs cs.xs cs.cnt⟩
  have hs3 := L3.size
  clear P4 L4 C4 LB cs OC3 L3
  generalize boxed w3 (cleanP p) T3 ud ug ux = w4 at *
  generalize w3.heap.size = g at *
  have HO2 := Lib.hid O2
  have HA2 := Lib.hid A2
  have HB2 := Lib.hid B2
  clear O2 A2 B2
  obtain ⟨Bz, hBz⟩ : ∃ Bz, w2.heap.size = Bz := ⟨_, rfl⟩
  rw [hBz] at S4 hs3
  have hBz := Lib.hid hBz
  go_wp2
  go_loopw [4] (fun i wr => ∃ k : Nat, k ≤ ug.n ∧ i = .int .i64 k ∧ ApSt Bz w2 wr g (cleanP p) T3 ud ug ux) (fun i _ => ug.n - (intOf i).toNat)
  case atStart => exact ⟨0, Nat.zero_le _, rfl, S4⟩
  case round =>
    obtain ⟨k, hk, rfl, S⟩ := hrel
    clear S4
    by_cases hlt : k < ug.n
    · have hn := S.gs.few
      rcases S.gs.cells with h | ⟨b, cur, ha, hb, hO, hx⟩
      · omega
      obtain ⟨x, hx⟩ := hx k hlt
      have cb := S.box.at_ 13 (.slice ug.a ug.n ug.c) rfl
      rw [ha] at cb
      have cc := hO.at_ k _ hx
      have D0 : wr.drew.cell? ⟨b, k, none⟩ = _ := cc
      have E0 : wr.drew.frozen? ⟨b, k, none⟩ = false := hO.free k
      have HS := Lib.hid (fun y => S.setU hO hb k y)
      clear S hO hx ha
      go_wp2_with fail
      go_still_tail 10, (by kernel_rfl)
      change wpList _ _ _ _ _ wr.drew
      clear cb cc
      generalize wr.drew = wd at *
      go_wp2
      go_roundw
      case rel => exact ⟨k + 1, by omega, by go_num, HS.out _⟩
      case measure => simp [intOf]; omega
    · have cb := S.box.at_ 13 (.slice ug.a ug.n ug.c) rfl
      have hn := S.gs.few
      have S4 := S
      clear S
      go_wp2
      go_loopw [5] (fun i wr => ∃ k : Nat, k ≤ ud.n ∧ i = .int .i64 k ∧ ApSt Bz w2 wr g (cleanP p) T3 ud ug ux) (fun i _ => ud.n - (intOf i).toNat)
      case atStart => exact ⟨0, Nat.zero_le _, rfl, S4⟩
      case round =>
        obtain ⟨k, hk, rfl, S⟩ := hrel
        clear S4
        by_cases hlt : k < ud.n
        · have hn := S.ds.few
          rcases S.ds.cells with h | ⟨b, cur, ha, hb, hO, hx⟩
          · omega
          obtain ⟨x, hx⟩ := hx k hlt
          have cb := S.box.at_ 9 (.slice ud.a ud.n ud.c) rfl
          rw [ha] at cb
          have cc := hO.at_ k _ hx
          have D0 : wr.drew.cell? ⟨b, k, none⟩ = _ := cc
          have E0 : wr.drew.frozen? ⟨b, k, none⟩ = false := hO.free k
          have HS := Lib.hid (fun y => S.setU hO hb k y)
          clear S hO hx ha
          go_wp2_with fail
          go_still_tail 12, (by kernel_rfl)
          change wpList _ _ _ _ _ wr.drew
          clear cb cc
          generalize wr.drew = wd at *
          go_wp2
          go_roundw
          case rel => exact ⟨k + 1, by omega, by go_num, HS.out _⟩
          case measure => simp [intOf]; omega
        · have cb := S.box.at_ 9 (.slice ud.a ud.n ud.c) rfl
          have hn := S.ds.few
          have S4 := S
          clear S
          go_wp2
          go_loopw [6] (fun i wr => ∃ k : Nat, k ≤ ux.n ∧ i = .int .i64 k ∧ ApSt Bz w2 wr g (cleanP p) T3 ud ug ux) (fun i _ => ux.n - (intOf i).toNat)
          case atStart => exact ⟨0, Nat.zero_le _, rfl, S4⟩
          case round =>
            obtain ⟨k, hk, rfl, S⟩ := hrel
            clear S4
            by_cases hlt : k < ux.n
            · have hn := S.xs.few
              rcases S.xs.cells with h | ⟨b, cur, ha, hb, hO, hx⟩
              · omega
              obtain ⟨x, vc, hvc, hx0, hx3⟩ := hx k hlt
              have cb := S.box.at_ 21 (.slice ux.a ux.n ux.c) rfl
              rw [ha] at cb
              have cc := hO.at_ (k * 6) _ hx0
              have D0 : wr.drew.cell? ⟨b, k * 6, none⟩ = _ := cc
              have E0 : wr.drew.frozen? ⟨b, k * 6, none⟩ = false := hO.free (k * 6)
              have HS := Lib.hid (fun y => (⟨S.setX hO hb k y, Own.set (w := wr.drew) hO (k * 6) (.int .i64 y), hvc.drew.setX (w := wr.drew) hO _ _⟩ : ApSt Bz w2 (wr.drew.setCell ⟨b, k * 6, none⟩ (.int .i64 y)) g (cleanP p) T3 ud ug ux ∧ Own (wr.drew.setCell ⟨b, k * 6, none⟩ (.int .i64 y)) b 50 (cur.setIfInBounds (k * 6) (.int .i64 y)) ∧ WV Bz (wr.drew.setCell ⟨b, k * 6, none⟩ (.int .i64 y)) vc))
              have H3 : Hid (∀ y : Value, (cur.setIfInBounds (k * 6) y)[k * 6 + 3]? = some (.slice vc.a vc.n vc.c)) := Lib.hid fun y => by rw [Array.getElem?_setIfInBounds, if_neg (by omega)]; exact hx3
              clear S hO hx hvc hx0 hx3
              have hvn : vc.n ≤ 1048576 := (HS.out 0).2.2.few
              go_wp2_with fail
              go_still_tail 12, (by kernel_rfl)
              change wpList _ _ _ _ _ wr.drew
              clear cb cc
              generalize wr.drew = wd at *
              go_wp2
              clear D0 E0
              go_loopw [7] (fun i wr => ∃ (m : Nat) (curx : Array Value), m ≤ vc.n ∧ i = .int .i64 m ∧ ApSt Bz w2 wr g (cleanP p) T3 ud ug ux ∧ Own wr b 50 curx ∧ curx[k * 6 + 3]? = some (.slice vc.a vc.n vc.c) ∧ WV Bz wr vc) (fun i _ => vc.n - (intOf i).toNat)
              case atStart => exact ⟨0, _, Nat.zero_le _, rfl, (HS.out _).1, (HS.out _).2.1, H3.out _, (HS.out _).2.2⟩
              case round =>
                obtain ⟨m, curx, hm, rfl, S, hO, hx3, hvc⟩ := hrel
                have ha := Lib.hid ha
                have cb := S.box.at_ 21 (.slice ux.a ux.n ux.c) rfl
                rw [ha.out] at cb
                have c3 := hO.at_ (k * 6 + 3) _ hx3
                by_cases hlt2 : m < vc.n
                · rcases hvc.cells with h | ⟨bv, curv, hva, hvb, hvO, hvx⟩
                  · omega
                  obtain ⟨xv, hxv⟩ := hvx m hlt2
                  rw [hva] at c3
                  have cc := hvO.at_ m _ hxv
                  have D0 : wr.drew.cell? ⟨bv, m, none⟩ = _ := cc
                  have E0 : wr.drew.frozen? ⟨bv, m, none⟩ = false := hvO.free m
                  have hxu : b ≠ bv := hO.apart hvO (by decide)
                  have HS2 := Lib.hid (fun y => (⟨S.setU hvO hvb m y, Own.set_other (w := wr.drew) hO _ _ _ hxu, hvc.drew.setU (w := wr.drew) hvO _ _⟩ : ApSt Bz w2 (wr.drew.setCell ⟨bv, m, none⟩ (.int .u32 y)) g (cleanP p) T3 ud ug ux ∧ Own (wr.drew.setCell ⟨bv, m, none⟩ (.int .u32 y)) b 50 curx ∧ WV Bz (wr.drew.setCell ⟨bv, m, none⟩ (.int .u32 y)) vc))
                  have H4 := Lib.hid hx3
                  clear S hO hx3 hvc hvO hvx hxv hva
                  go_wp2_with fail
                  go_still_tail 18, (by kernel_rfl)
                  change wpList _ _ _ _ _ wr.drew
                  clear cb cc c3
                  generalize wr.drew = wd2 at *
                  go_wp2
                  go_roundw
                  case rel => exact ⟨m + 1, curx, by omega, by go_num, (HS2.out _).1, (HS2.out _).2.1, H4.out, (HS2.out _).2.2⟩
                  case measure => simp [intOf]; omega
                · have HS2 := Lib.hid S
                  clear S hO hx3 hvc HS H3
                  go_wp2
                  go_roundw
                  case rel => exact ⟨k + 1, by omega, by go_num, HS2.out⟩
                  case measure => simp [intOf]; omega
            · have cb := S.box.at_ 21 (.slice ux.a ux.n ux.c) rfl
              have hn := S.xs.few
              have bel : Go.RowKit.Below w2.heap.size w2 wr := by rw [hBz.out]; exact S.bel
              have O5 := HO2.out.below bel hlt2
              have A5 := HA2.out.below bel
              have B5 := HB2.out.trans (bel.mono HB2.out.size)
              clear S bel
              go_wp2_with fail
              clear cb
              refine wp_region_held_drew (S := fun w' => Own w' w.heap.size 35 (encP p T vd vg vx).toArray) (by kernel_rfl) O5.drew (fun hHeld => ?_)
              have P7 := O5.drew
              have A7 := A5.below ((Grw.refl wr).drew).below
              have B7 := B5.trans (((Grw.refl wr).drew).below.mono B5.size)
              clear O5 A5 B5
              generalize wr.drew = w7 at *
              have hp7 := P7.lt
              refine take_at (i := 0) (v := _) 100 rfl (by kernel_rfl) (by kernel_rfl) (by kernel_rfl) (by kernel_rfl) (fun _ _ _ h => h) (yields_packet (by kernel_rfl) (.tmp 1) rfl w.heap.size (by kernel_rfl) (fun w' hS => hS)) hHeld ?_
              (try simp only [Act.put, List.setIfInBounds_toArray, List.set_cons_zero, List.set_cons_succ])
              refine take_at (i := 2) (v := _) 102 rfl (by kernel_rfl) (by kernel_rfl) (by kernel_rfl) (by kernel_rfl) (fun _ _ _ h => h) (yields_packet (by kernel_rfl) (.tmp 1) rfl w.heap.size (by kernel_rfl) (fun w' hS => hS)) hHeld ?_
              (try simp only [Act.put, List.setIfInBounds_toArray, List.set_cons_zero, List.set_cons_succ])
              refine wpAnyH_ready (rs := [1]) (by kernel_rfl) (by simp) (AllReadyH.cons rfl (fun K hK => ?_) AllReadyH.nil)
              clear hHeld
              rw [if_pos (by kernel_rfl)]
              go_simp
              refine (pclean w7 p T vd vg vx A7 HM.out).mono ?_
              rintro e w8 ⟨T8, sd, sg, sx, rfl, OC8, L8⟩
              have P8 := P7.below L8 hp7
              have A8 := A7.below L8
              have B8 := B7.trans (L8.mono B7.size)
              have hp8 := P8.lt
              have C8 := OC8.at_
              refine hK.out _ _ P8 (fun hHeld => ?_)
              clear P7 A7 B7 hp7 L8 OC8
              clear hK K
              (try simp only [Act.put, List.setIfInBounds_toArray, List.set_cons_zero, List.set_cons_succ])
              refine wpAnyH_ready (rs := [3]) (by kernel_rfl) (by simp) (AllReadyH.cons rfl (fun K hK => ?_) AllReadyH.nil)
              clear hHeld
              rw [if_pos (by kernel_rfl)]
              go_simp
              refine (rclean w8 p T vd vg vx A8 HM.out).mono ?_
              rintro e w9 ⟨T9, td, tg, tx, rfl, C9, L9⟩
              have P9 := P8.below L9 hp8
              have D9 := C8.below L9
              have B9 := B8.trans (L9.mono B8.size)
              have hp9 := P9.lt
              refine hK.out _ _ P9 (fun hHeld => ?_)
              clear P8 A8 B8 hp8 L9 C8
              clear hK K
              (try simp only [Act.put, List.setIfInBounds_toArray, List.set_cons_zero, List.set_cons_succ])
              refine wpAnyH_ready (rs := [4]) (by kernel_rfl) (by simp) (AllReadyH.cons rfl (fun K hK => ?_) AllReadyH.nil)
              clear hHeld
              rw [if_pos (by kernel_rfl)]
              go_simp
              refine (pk_same w9 (cleanP p) T8 T9 sd sg sx td tg tx D9 C9 (clean_small HM.out).deps (clean_small HM.out).got (clean_small HM.out).xs (clean_small HM.out).cnt).mono ?_
              rintro e w10 ⟨rfl, G10⟩
              have P10 := P9.below G10.below hp9
              have B10 := B9.trans (G10.below.mono B9.size)
              refine hK.out _ _ P10 (fun hHeld => ?_)
              clear P9 D9 C9 B9 hp9 G10
              clear hK K
              (try simp only [Act.put, List.setIfInBounds_toArray, List.set_cons_zero, List.set_cons_succ])
              refine take_at (i := 5) (v := .bool true) 2 rfl (by kernel_rfl) (by kernel_rfl) (by kernel_rfl) (by kernel_rfl) (fun _ _ _ h => h) (.inl ⟨by kernel_rfl, fun w' hS => by (go_simp)⟩) hHeld ?_
              (try simp only [Act.put, List.setIfInBounds_toArray, List.set_cons_zero, List.set_cons_succ])
              refine wpAnyH_done (by kernel_rfl) ?_ _
              clear hHeld
              have HB := Lib.hid B10
              clear B10 P10
              go_wp2
              go_ret
              exact ⟨rfl, HB.out⟩
end Go.Proofs.Ytgkddjapcdjalaa
