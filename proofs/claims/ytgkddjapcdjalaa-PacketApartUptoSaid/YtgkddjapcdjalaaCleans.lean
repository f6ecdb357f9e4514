import Derived.Test.YtgkddjapcdjalaaClKit
import Derived.Deep.DeepCutAuto
/- Cleaning a packet: kind 1. (Written by wip/gen_clean.py.) -/
set_option linter.unusedVariables false
set_option linter.unusedSimpArgs false
namespace Go.Proofs.Ytgkddjapcdjalaa
open Go.RowKit Go.Sort

set_option maxHeartbeats 4000000 in
set_option maxRecDepth 100000 in
theorem pclean_1 (w : World) (p : Pk) (T : ByteArray) (vd vg vx : Vc) (ht : PkAt w p T vd vg vx) (hsm : Small p) (hk : p.kind = 1) :
    Calls Try.prog 13 #[.agg (encP p T vd vg vx).toArray] w (ClPost w p) := by
  obtain ⟨da, dn, dc⟩ := vd
  obtain ⟨ga, gn, gc⟩ := vg
  obtain ⟨xa, xn, xc⟩ := vx
  have S0 := CSt.new (w := w) p T ⟨da, dn, dc⟩ ⟨ga, gn, gc⟩ ⟨xa, xn, xc⟩ 1 p.frm p.to
  have hd : dn ≤ 1048576 := by have := ht.deps.len; simp only at this; rw [← this]; exact hsm.deps
  have hgn : gn ≤ 1048576 := by have := ht.got.len; simp only at this; rw [← this]; exact hsm.got
  have hxn : xn ≤ 1048576 := by have := ht.xs.len; simp only at this; rw [← this]; exact hsm.xs
  have hT : T.size ≤ 1048576 := by rw [size_text ht.text]; exact hsm.text
  have HC : Hid (∀ x ∈ p.x, x.cnt.length ≤ 1048576) := Lib.hid hsm.cnt
  have HT := Lib.hid ht
  clear ht hsm
  obtain ⟨B1, hB1⟩ : ∃ B1, B1 = (w.alloc (.cells (encP p T ⟨da, dn, dc⟩ ⟨ga, gn, gc⟩ ⟨xa, xn, xc⟩).toArray 35)).alloc (.cells (encP zeroP { data := #[] } Vc.nil Vc.nil Vc.nil).toArray 35) := ⟨_, rfl⟩
  have hz : B1.heap.size = w.heap.size + 2 := by rw [hB1]; simp
  have G1 : Grw (w.alloc (.cells (encP p T ⟨da, dn, dc⟩ ⟨ga, gn, gc⟩ ⟨xa, xn, xc⟩).toArray 35)) B1 := by rw [hB1]; exact (Grw.refl _).alloc _
  have OB := (Own.new w 35 (encP p T ⟨da, dn, dc⟩ ⟨ga, gn, gc⟩ ⟨xa, xn, xc⟩).toArray).below G1.below (by simp)
  rw [← hB1] at S0
  have c0 : B1.cell? ⟨w.heap.size, 0, none⟩ = some (.int .i64 1) := by rw [← hk]; exact OB.at_ 0 _ rfl
  have c1 : B1.cell? ⟨w.heap.size, 1, none⟩ = some (.int .i64 p.frm) := OB.at_ 1 _ rfl
  have c2 : B1.cell? ⟨w.heap.size, 2, none⟩ = some (.int .i64 p.to) := OB.at_ 2 _ rfl
  have ON := Own.new B1 35 (encP zeroP { data := #[] } Vc.nil Vc.nil Vc.nil).toArray
  rw [hz] at ON
  have HK := Lib.hid hk
  have HB := Lib.hid hB1
  have HS := Lib.hid S0
  clear hk hB1 S0 G1 OB
  rw [show (encP p T ⟨da, dn, dc⟩ ⟨ga, gn, gc⟩ ⟨xa, xn, xc⟩).toArray = #[.int .i64 p.kind, .int .i64 p.frm, .int .i64 p.to, .int .u64 (p.conf.e : Int), .int .i64 p.conf.r, .int .i64 p.m.f, .int .u32 (p.m.q : Int), .int .u64 (p.m.s : Int), .int .i64 p.m.v, .slice da dn dc, .string T, .int .u64 (p.stamp : Int), .int .u32 (p.sent : Int), .slice ga gn gc, .int .u64 (p.hor : Int), .int .i64 p.whom, .int .u32 (p.seq : Int), .int .u64 (p.mem : Int), .int .u64 (p.prom.e : Int), .int .i64 p.prom.r, .int .u64 (p.epoch : Int), .slice xa xn xc] from rfl]
  go_enter Try.func13, Try.ntmps13
  go_upto_region 1 with fail
  rw [show ((w.alloc (.cells #[.int .i64 p.kind, .int .i64 p.frm, .int .i64 p.to, .int .u64 (p.conf.e : Int), .int .i64 p.conf.r, .int .i64 p.m.f, .int .u32 (p.m.q : Int), .int .u64 (p.m.s : Int), .int .i64 p.m.v, .slice da dn dc, .string T, .int .u64 (p.stamp : Int), .int .u32 (p.sent : Int), .slice ga gn gc, .int .u64 (p.hor : Int), .int .i64 p.whom, .int .u32 (p.seq : Int), .int .u64 (p.mem : Int), .int .u64 (p.prom.e : Int), .int .i64 p.prom.r, .int .u64 (p.epoch : Int), .slice xa xn xc] 35)).alloc (.cells #[.int .i64 0, .int .i64 0, .int .i64 0, .int .u64 0, .int .i64 0, .int .i64 0, .int .u32 0, .int .u64 0, .int .i64 0, .slice none 0 0, .string { data := #[] }, .int .u64 0, .int .u32 0, .slice none 0 0, .int .u64 0, .int .i64 0, .int .u32 0, .int .u64 0, .int .u64 0, .int .i64 0, .int .u64 0, .slice none 0 0] 35)) = B1 from HB.out.symm]
  go_upto_region 2 with (refine store_packet (p := baseP 1 p.frm p.to) (T := { data := #[] }) (vd := Vc.nil) (vg := Vc.nil) (vx := Vc.nil) rfl (.tmp 3) (.tmp 10) rfl (w.heap.size + 2) rfl rfl ON ?_)
  have S1 := HS.out
  clear HS c0 c1 c2 ON
  generalize hW1 : ((B1.alloc (.cells (encP zeroP { data := #[] } Vc.nil Vc.nil Vc.nil).toArray 35)).setRow (w.heap.size + 2) (encP (baseP 1 p.frm p.to) { data := #[] } Vc.nil Vc.nil Vc.nil).toArray) = W1 at S1
  rw [show ((B1.alloc (.cells #[.int .i64 0, .int .i64 0, .int .i64 0, .int .u64 0, .int .i64 0, .int .i64 0, .int .u32 0, .int .u64 0, .int .i64 0, .slice none 0 0, .string { data := #[] }, .int .u64 0, .int .u32 0, .slice none 0 0, .int .u64 0, .int .i64 0, .int .u32 0, .int .u64 0, .int .u64 0, .int .i64 0, .int .u64 0, .slice none 0 0] 35)).setRow (w.heap.size + 2) (encP (baseP 1 p.frm p.to) { data := #[] } Vc.nil Vc.nil Vc.nil).toArray) = W1 from hW1]
  clear hW1 HB hz
  obtain ⟨g, hg⟩ : ∃ g, g = w.heap.size + 2 := ⟨_, rfl⟩
  rw [← hg] at S1
  rw [← hg]
  have hne : g ≠ w.heap.size := by omega
  have hne2 : w.heap.size ≠ g := by omega
  clear hg B1
  have c0 : W1.cell? ⟨w.heap.size, 0, none⟩ = some (.int .i64 1) := by rw [← HK.out]; exact S1.box.at_ 0 _ rfl
  have c3 : W1.cell? ⟨w.heap.size, 3, none⟩ = some (.int .u64 (p.conf.e : Int)) := S1.box.at_ 3 _ rfl
  have c4 : W1.cell? ⟨w.heap.size, 4, none⟩ = some (.int .i64 p.conf.r) := S1.box.at_ 4 _ rfl
  have d3 : W1.cell? ⟨g, 3, none⟩ = some (.int .u64 0) := S1.row.at_ 3 _ rfl
  have f3 := S1.row.free 3
  have d4 : W1.cell? ⟨g, 4, none⟩ = some (.int .i64 0) := S1.row.at_ 4 _ rfl
  have f4 := S1.row.free 4
  go_upto_region 5 with fail
  have S2 := (S1.set 3 (.int .u64 (p.conf.e : Int)) (q' := { baseP 1 p.frm p.to with conf := ⟨p.conf.e, 0⟩ }) (T2 := { data := #[] }) (sd := Vc.nil) (sg := Vc.nil) (sx := Vc.nil) rfl ⟨rfl, OwnVec.nil _ _, OwnVec.nil _ _, OwnXs.nil _ _⟩).set 4 (.int .i64 p.conf.r) (q' := { baseP 1 p.frm p.to with conf := p.conf }) (T2 := { data := #[] }) (sd := Vc.nil) (sg := Vc.nil) (sx := Vc.nil) rfl ⟨rfl, OwnVec.nil _ _, OwnVec.nil _ _, OwnXs.nil _ _⟩
  generalize ((W1.setCell ⟨g, 3, none⟩ (.int .u64 (p.conf.e : Int))).setCell ⟨g, 4, none⟩ (.int .i64 p.conf.r)) = W2 at *
  clear S1 c0 c3 c4 d3 d4 f3 f4
  have c0 : W2.cell? ⟨w.heap.size, 0, none⟩ = some (.int .i64 1) := by rw [← HK.out]; exact S2.box.at_ 0 _ rfl
  go_upto_region 7 with fail
  have hgl : g + 1 ≤ W2.drew.heap.size := S2.row.lt
  have hg1 : g < g + 1 := Nat.lt_succ_self _
  have c1 : W2.cell? ⟨w.heap.size, 1, none⟩ = some (.int .i64 p.frm) := S2.box.at_ 1 _ rfl
  have c5 : W2.cell? ⟨w.heap.size, 5, none⟩ = some (.int .i64 p.m.f) := S2.box.at_ 5 _ rfl
  have c6 : W2.cell? ⟨w.heap.size, 6, none⟩ = some (.int .u32 (p.m.q : Int)) := S2.box.at_ 6 _ rfl
  have c7 : W2.cell? ⟨w.heap.size, 7, none⟩ = some (.int .u64 (p.m.s : Int)) := S2.box.at_ 7 _ rfl
  have c8 : W2.cell? ⟨w.heap.size, 8, none⟩ = some (.int .i64 p.m.v) := S2.box.at_ 8 _ rfl
  have c9 : W2.cell? ⟨w.heap.size, 9, none⟩ = some (.slice da dn dc) := S2.box.at_ 9 _ rfl
  have c10 : W2.cell? ⟨w.heap.size, 10, none⟩ = some (.string T) := S2.box.at_ 10 _ rfl
  have c1 : W2.cell? ⟨w.heap.size, 1, none⟩ = some (.int .i64 p.frm) := S2.box.at_ 1 _ rfl
  have HA := S2.at_ HT.out
  have HCALL := Lib.hid (cmessage W2 p.m.f p.m.q p.m.s p.m.v p.frm ⟨da, dn, dc⟩ T p.m.deps HA.deps hd hT)
  clear HA
  go_wp2_with fail
  refine HCALL.out.mono ?_
  rintro e w3 ⟨⟨ua, un, uc⟩, rfl, ho, hb⟩
  have S3 := S2.go hb
  have HO := Lib.hid (ho.mono hgl)
  have d5 : w3.cell? ⟨g, 5, none⟩ = some (.int .i64 0) := S3.row.at_ 5 _ rfl
  have f5 := S3.row.free 5
  have d6 : w3.cell? ⟨g, 6, none⟩ = some (.int .u32 0) := S3.row.at_ 6 _ rfl
  have f6 := S3.row.free 6
  have d7 : w3.cell? ⟨g, 7, none⟩ = some (.int .u64 0) := S3.row.at_ 7 _ rfl
  have f7 := S3.row.free 7
  have d8 : w3.cell? ⟨g, 8, none⟩ = some (.int .i64 0) := S3.row.at_ 8 _ rfl
  have f8 := S3.row.free 8
  have d9 : w3.cell? ⟨g, 9, none⟩ = some (.slice none 0 0) := S3.row.at_ 9 _ rfl
  have f9 := S3.row.free 9
  have d10 : w3.cell? ⟨g, 10, none⟩ = some (.string { data := #[] }) := S3.row.at_ 10 _ rfl
  have f10 := S3.row.free 10
  clear ho hb
  clear HCALL c1 c5 c6 c7 c8 c9 c10
  have c0 : w3.cell? ⟨w.heap.size, 0, none⟩ = some (.int .i64 1) := by rw [← HK.out]; exact S3.box.at_ 0 _ rfl
  go_upto_region 23 with fail
  have SZ := S3.setM { p.m with f := p.frm } (T2 := T) (v := ⟨ua, un, uc⟩) HT.out.text HO.out
  have HE : Hid (cleanP p = { baseP 1 p.frm p.to with conf := p.conf, m := { p.m with f := p.frm } }) := Lib.hid (by unfold cleanP; rw [show rowP p = [.c, .m] from by unfold rowP; rw [HK.out]; rfl, HK.out]; rfl)
  go_wp2_with (first | (refine load_packet rfl (.tmp 3) rfl g rfl SZ.row ?_) | (refine store_packet rfl (.tmp 2) (.tmp 99) rfl (w.heap.size + 1) rfl rfl SZ.res ?_))
  (try simp only [Exit.inBlock, Exit.then])
  refine bodyPost_ret (results_packet rfl _ _ (w.heap.size + 1) rfl (SZ.res.row _)) rfl ?_
  exact SZ.done HE.out
end Go.Proofs.Ytgkddjapcdjalaa

/- Cleaning a packet: kind 2. (Written by wip/gen_clean.py.) -/
set_option linter.unusedVariables false
set_option linter.unusedSimpArgs false
namespace Go.Proofs.Ytgkddjapcdjalaa
open Go.RowKit Go.Sort

set_option maxHeartbeats 4000000 in
set_option maxRecDepth 100000 in
theorem pclean_2 (w : World) (p : Pk) (T : ByteArray) (vd vg vx : Vc) (ht : PkAt w p T vd vg vx) (hsm : Small p) (hk : p.kind = 2) :
    Calls Try.prog 13 #[.agg (encP p T vd vg vx).toArray] w (ClPost w p) := by
  obtain ⟨da, dn, dc⟩ := vd
  obtain ⟨ga, gn, gc⟩ := vg
  obtain ⟨xa, xn, xc⟩ := vx
  have S0 := CSt.new (w := w) p T ⟨da, dn, dc⟩ ⟨ga, gn, gc⟩ ⟨xa, xn, xc⟩ 2 p.frm p.to
  have hd : dn ≤ 1048576 := by have := ht.deps.len; simp only at this; rw [← this]; exact hsm.deps
  have hgn : gn ≤ 1048576 := by have := ht.got.len; simp only at this; rw [← this]; exact hsm.got
  have hxn : xn ≤ 1048576 := by have := ht.xs.len; simp only at this; rw [← this]; exact hsm.xs
  have hT : T.size ≤ 1048576 := by rw [size_text ht.text]; exact hsm.text
  have HC : Hid (∀ x ∈ p.x, x.cnt.length ≤ 1048576) := Lib.hid hsm.cnt
  have HT := Lib.hid ht
  clear ht hsm
  obtain ⟨B1, hB1⟩ : ∃ B1, B1 = (w.alloc (.cells (encP p T ⟨da, dn, dc⟩ ⟨ga, gn, gc⟩ ⟨xa, xn, xc⟩).toArray 35)).alloc (.cells (encP zeroP { data := #[] } Vc.nil Vc.nil Vc.nil).toArray 35) := ⟨_, rfl⟩
  have hz : B1.heap.size = w.heap.size + 2 := by rw [hB1]; simp
  have G1 : Grw (w.alloc (.cells (encP p T ⟨da, dn, dc⟩ ⟨ga, gn, gc⟩ ⟨xa, xn, xc⟩).toArray 35)) B1 := by rw [hB1]; exact (Grw.refl _).alloc _
  have OB := (Own.new w 35 (encP p T ⟨da, dn, dc⟩ ⟨ga, gn, gc⟩ ⟨xa, xn, xc⟩).toArray).below G1.below (by simp)
  rw [← hB1] at S0
  have c0 : B1.cell? ⟨w.heap.size, 0, none⟩ = some (.int .i64 2) := by rw [← hk]; exact OB.at_ 0 _ rfl
  have c1 : B1.cell? ⟨w.heap.size, 1, none⟩ = some (.int .i64 p.frm) := OB.at_ 1 _ rfl
  have c2 : B1.cell? ⟨w.heap.size, 2, none⟩ = some (.int .i64 p.to) := OB.at_ 2 _ rfl
  have ON := Own.new B1 35 (encP zeroP { data := #[] } Vc.nil Vc.nil Vc.nil).toArray
  rw [hz] at ON
  have HK := Lib.hid hk
  have HB := Lib.hid hB1
  have HS := Lib.hid S0
  clear hk hB1 S0 G1 OB
  rw [show (encP p T ⟨da, dn, dc⟩ ⟨ga, gn, gc⟩ ⟨xa, xn, xc⟩).toArray = #[.int .i64 p.kind, .int .i64 p.frm, .int .i64 p.to, .int .u64 (p.conf.e : Int), .int .i64 p.conf.r, .int .i64 p.m.f, .int .u32 (p.m.q : Int), .int .u64 (p.m.s : Int), .int .i64 p.m.v, .slice da dn dc, .string T, .int .u64 (p.stamp : Int), .int .u32 (p.sent : Int), .slice ga gn gc, .int .u64 (p.hor : Int), .int .i64 p.whom, .int .u32 (p.seq : Int), .int .u64 (p.mem : Int), .int .u64 (p.prom.e : Int), .int .i64 p.prom.r, .int .u64 (p.epoch : Int), .slice xa xn xc] from rfl]
  go_enter Try.func13, Try.ntmps13
  go_upto_region 1 with fail
  rw [show ((w.alloc (.cells #[.int .i64 p.kind, .int .i64 p.frm, .int .i64 p.to, .int .u64 (p.conf.e : Int), .int .i64 p.conf.r, .int .i64 p.m.f, .int .u32 (p.m.q : Int), .int .u64 (p.m.s : Int), .int .i64 p.m.v, .slice da dn dc, .string T, .int .u64 (p.stamp : Int), .int .u32 (p.sent : Int), .slice ga gn gc, .int .u64 (p.hor : Int), .int .i64 p.whom, .int .u32 (p.seq : Int), .int .u64 (p.mem : Int), .int .u64 (p.prom.e : Int), .int .i64 p.prom.r, .int .u64 (p.epoch : Int), .slice xa xn xc] 35)).alloc (.cells #[.int .i64 0, .int .i64 0, .int .i64 0, .int .u64 0, .int .i64 0, .int .i64 0, .int .u32 0, .int .u64 0, .int .i64 0, .slice none 0 0, .string { data := #[] }, .int .u64 0, .int .u32 0, .slice none 0 0, .int .u64 0, .int .i64 0, .int .u32 0, .int .u64 0, .int .u64 0, .int .i64 0, .int .u64 0, .slice none 0 0] 35)) = B1 from HB.out.symm]
  go_upto_region 2 with (refine store_packet (p := baseP 2 p.frm p.to) (T := { data := #[] }) (vd := Vc.nil) (vg := Vc.nil) (vx := Vc.nil) rfl (.tmp 3) (.tmp 10) rfl (w.heap.size + 2) rfl rfl ON ?_)
  have S1 := HS.out
  clear HS c0 c1 c2 ON
  generalize hW1 : ((B1.alloc (.cells (encP zeroP { data := #[] } Vc.nil Vc.nil Vc.nil).toArray 35)).setRow (w.heap.size + 2) (encP (baseP 2 p.frm p.to) { data := #[] } Vc.nil Vc.nil Vc.nil).toArray) = W1 at S1
  rw [show ((B1.alloc (.cells #[.int .i64 0, .int .i64 0, .int .i64 0, .int .u64 0, .int .i64 0, .int .i64 0, .int .u32 0, .int .u64 0, .int .i64 0, .slice none 0 0, .string { data := #[] }, .int .u64 0, .int .u32 0, .slice none 0 0, .int .u64 0, .int .i64 0, .int .u32 0, .int .u64 0, .int .u64 0, .int .i64 0, .int .u64 0, .slice none 0 0] 35)).setRow (w.heap.size + 2) (encP (baseP 2 p.frm p.to) { data := #[] } Vc.nil Vc.nil Vc.nil).toArray) = W1 from hW1]
  clear hW1 HB hz
  obtain ⟨g, hg⟩ : ∃ g, g = w.heap.size + 2 := ⟨_, rfl⟩
  rw [← hg] at S1
  rw [← hg]
  have hne : g ≠ w.heap.size := by omega
  have hne2 : w.heap.size ≠ g := by omega
  clear hg B1
  have c0 : W1.cell? ⟨w.heap.size, 0, none⟩ = some (.int .i64 2) := by rw [← HK.out]; exact S1.box.at_ 0 _ rfl
  have c3 : W1.cell? ⟨w.heap.size, 3, none⟩ = some (.int .u64 (p.conf.e : Int)) := S1.box.at_ 3 _ rfl
  have c4 : W1.cell? ⟨w.heap.size, 4, none⟩ = some (.int .i64 p.conf.r) := S1.box.at_ 4 _ rfl
  have d3 : W1.cell? ⟨g, 3, none⟩ = some (.int .u64 0) := S1.row.at_ 3 _ rfl
  have f3 := S1.row.free 3
  have d4 : W1.cell? ⟨g, 4, none⟩ = some (.int .i64 0) := S1.row.at_ 4 _ rfl
  have f4 := S1.row.free 4
  go_upto_region 5 with fail
  have S2 := (S1.set 3 (.int .u64 (p.conf.e : Int)) (q' := { baseP 2 p.frm p.to with conf := ⟨p.conf.e, 0⟩ }) (T2 := { data := #[] }) (sd := Vc.nil) (sg := Vc.nil) (sx := Vc.nil) rfl ⟨rfl, OwnVec.nil _ _, OwnVec.nil _ _, OwnXs.nil _ _⟩).set 4 (.int .i64 p.conf.r) (q' := { baseP 2 p.frm p.to with conf := p.conf }) (T2 := { data := #[] }) (sd := Vc.nil) (sg := Vc.nil) (sx := Vc.nil) rfl ⟨rfl, OwnVec.nil _ _, OwnVec.nil _ _, OwnXs.nil _ _⟩
  generalize ((W1.setCell ⟨g, 3, none⟩ (.int .u64 (p.conf.e : Int))).setCell ⟨g, 4, none⟩ (.int .i64 p.conf.r)) = W2 at *
  clear S1 c0 c3 c4 d3 d4 f3 f4
  have c0 : W2.cell? ⟨w.heap.size, 0, none⟩ = some (.int .i64 2) := by rw [← HK.out]; exact S2.box.at_ 0 _ rfl
  go_upto_region 9 with fail
  have hgl : g + 1 ≤ W2.drew.heap.size := S2.row.lt
  have hg1 : g < g + 1 := Nat.lt_succ_self _
  have c11 : W2.cell? ⟨w.heap.size, 11, none⟩ = some (.int .u64 (p.stamp : Int)) := S2.box.at_ 11 _ rfl
  have c12 : W2.cell? ⟨w.heap.size, 12, none⟩ = some (.int .u32 (p.sent : Int)) := S2.box.at_ 12 _ rfl
  have c13 : W2.cell? ⟨w.heap.size, 13, none⟩ = some (.slice ga gn gc) := S2.box.at_ 13 _ rfl
  have c14 : W2.cell? ⟨w.heap.size, 14, none⟩ = some (.int .u64 (p.hor : Int)) := S2.box.at_ 14 _ rfl
  have HA := S2.drew.at_ HT.out
  have HCALL := Lib.hid (clone32_any ⟨ga, gn, gc⟩ p.got W2.drew HA.got hgn)
  clear HA
  go_region_held2 (fun w' => w'.cell? ⟨w.heap.size, 11, none⟩ = some (.int .u64 (p.stamp : Int)) ∧ w'.cell? ⟨w.heap.size, 12, none⟩ = some (.int .u32 (p.sent : Int)) ∧ w'.cell? ⟨w.heap.size, 13, none⟩ = some (.slice ga gn gc) ∧ w'.cell? ⟨w.heap.size, 14, none⟩ = some (.int .u64 (p.hor : Int))) (first | (with_reducible exact E3) | go_keep)
    (first
      | (go_at_call 32; (with_reducible refine HCALL.out.mono ?_); rintro e w3 ⟨⟨ua, un, uc⟩, rfl, ho, hb⟩; (have S3 := S2.drew.go hb); (have HO := Lib.hid (ho.mono hgl)); (have d11 : w3.cell? ⟨g, 11, none⟩ = some (.int .u64 0) := S3.row.at_ 11 _ rfl); (have f11 := S3.row.free 11); (have d12 : w3.cell? ⟨g, 12, none⟩ = some (.int .u32 0) := S3.row.at_ 12 _ rfl); (have f12 := S3.row.free 12); (have d13 : w3.cell? ⟨g, 13, none⟩ = some (.slice none 0 0) := S3.row.at_ 13 _ rfl); (have f13 := S3.row.free 13); (have d14 : w3.cell? ⟨g, 14, none⟩ = some (.int .u64 0) := S3.row.at_ 14 _ rfl); (have f14 := S3.row.free 14); (have E3 : w3.cell? ⟨w.heap.size, 11, none⟩ = some (.int .u64 (p.stamp : Int)) ∧ w3.cell? ⟨w.heap.size, 12, none⟩ = some (.int .u32 (p.sent : Int)) ∧ w3.cell? ⟨w.heap.size, 13, none⟩ = some (.slice ga gn gc) ∧ w3.cell? ⟨w.heap.size, 14, none⟩ = some (.int .u64 (p.hor : Int)) := ⟨S3.box.at_ 11 _ rfl, S3.box.at_ 12 _ rfl, S3.box.at_ 13 _ rfl, S3.box.at_ 14 _ rfl⟩); (clear ho hb)))
  have U11 := S3.set 11 (.int .u64 (p.stamp : Int)) (q' := { baseP 2 p.frm p.to with conf := p.conf, stamp := p.stamp }) (T2 := { data := #[] }) (sd := Vc.nil) (sg := Vc.nil) (sx := Vc.nil) rfl ⟨rfl, OwnVec.nil _ _, OwnVec.nil _ _, OwnXs.nil _ _⟩
  have U12 := U11.set 12 (.int .u32 (p.sent : Int)) (q' := { baseP 2 p.frm p.to with conf := p.conf, stamp := p.stamp, sent := p.sent }) (T2 := { data := #[] }) (sd := Vc.nil) (sg := Vc.nil) (sx := Vc.nil) rfl ⟨rfl, OwnVec.nil _ _, OwnVec.nil _ _, OwnXs.nil _ _⟩
  have U13 := U12.set 13 (.slice ua un uc) (q' := { baseP 2 p.frm p.to with conf := p.conf, stamp := p.stamp, sent := p.sent, got := p.got }) (T2 := { data := #[] }) (sd := Vc.nil) (sg := ⟨ua, un, uc⟩) (sx := Vc.nil) rfl ⟨rfl, OwnVec.nil _ _, (HO.out.set hg1 11 _).set hg1 12 _, OwnXs.nil _ _⟩
  have SZ := U13.set 14 (.int .u64 (p.hor : Int)) (q' := { baseP 2 p.frm p.to with conf := p.conf, stamp := p.stamp, sent := p.sent, got := p.got, hor := p.hor }) (T2 := { data := #[] }) (sd := Vc.nil) (sg := ⟨ua, un, uc⟩) (sx := Vc.nil) rfl ⟨rfl, OwnVec.nil _ _, U13.own.got, OwnXs.nil _ _⟩
  have HE : Hid (cleanP p = { baseP 2 p.frm p.to with conf := p.conf, stamp := p.stamp, sent := p.sent, got := p.got, hor := p.hor }) := Lib.hid (by unfold cleanP; rw [show rowP p = [.c, .s, .n, .g, .h] from by unfold rowP; rw [HK.out]; rfl, HK.out]; rfl)
  go_upto_region 23 with fail
  go_wp2_with (first | (refine load_packet rfl (.tmp 3) rfl g rfl SZ.row ?_) | (refine store_packet rfl (.tmp 2) (.tmp 99) rfl (w.heap.size + 1) rfl rfl SZ.res ?_))
  (try simp only [Exit.inBlock, Exit.then])
  refine bodyPost_ret (results_packet rfl _ _ (w.heap.size + 1) rfl (SZ.res.row _)) rfl ?_
  exact SZ.done HE.out
end Go.Proofs.Ytgkddjapcdjalaa

/- Cleaning a packet: kind 3. (Written by wip/gen_clean.py.) -/
set_option linter.unusedVariables false
set_option linter.unusedSimpArgs false
namespace Go.Proofs.Ytgkddjapcdjalaa
open Go.RowKit Go.Sort

set_option maxHeartbeats 4000000 in
set_option maxRecDepth 100000 in
theorem pclean_3 (w : World) (p : Pk) (T : ByteArray) (vd vg vx : Vc) (ht : PkAt w p T vd vg vx) (hsm : Small p) (hk : p.kind = 3) :
    Calls Try.prog 13 #[.agg (encP p T vd vg vx).toArray] w (ClPost w p) := by
  obtain ⟨da, dn, dc⟩ := vd
  obtain ⟨ga, gn, gc⟩ := vg
  obtain ⟨xa, xn, xc⟩ := vx
  have S0 := CSt.new (w := w) p T ⟨da, dn, dc⟩ ⟨ga, gn, gc⟩ ⟨xa, xn, xc⟩ 3 p.frm p.to
  have hd : dn ≤ 1048576 := by have := ht.deps.len; simp only at this; rw [← this]; exact hsm.deps
  have hgn : gn ≤ 1048576 := by have := ht.got.len; simp only at this; rw [← this]; exact hsm.got
  have hxn : xn ≤ 1048576 := by have := ht.xs.len; simp only at this; rw [← this]; exact hsm.xs
  have hT : T.size ≤ 1048576 := by rw [size_text ht.text]; exact hsm.text
  have HC : Hid (∀ x ∈ p.x, x.cnt.length ≤ 1048576) := Lib.hid hsm.cnt
  have HT := Lib.hid ht
  clear ht hsm
  obtain ⟨B1, hB1⟩ : ∃ B1, B1 = (w.alloc (.cells (encP p T ⟨da, dn, dc⟩ ⟨ga, gn, gc⟩ ⟨xa, xn, xc⟩).toArray 35)).alloc (.cells (encP zeroP { data := #[] } Vc.nil Vc.nil Vc.nil).toArray 35) := ⟨_, rfl⟩
  have hz : B1.heap.size = w.heap.size + 2 := by rw [hB1]; simp
  have G1 : Grw (w.alloc (.cells (encP p T ⟨da, dn, dc⟩ ⟨ga, gn, gc⟩ ⟨xa, xn, xc⟩).toArray 35)) B1 := by rw [hB1]; exact (Grw.refl _).alloc _
  have OB := (Own.new w 35 (encP p T ⟨da, dn, dc⟩ ⟨ga, gn, gc⟩ ⟨xa, xn, xc⟩).toArray).below G1.below (by simp)
  rw [← hB1] at S0
  have c0 : B1.cell? ⟨w.heap.size, 0, none⟩ = some (.int .i64 3) := by rw [← hk]; exact OB.at_ 0 _ rfl
  have c1 : B1.cell? ⟨w.heap.size, 1, none⟩ = some (.int .i64 p.frm) := OB.at_ 1 _ rfl
  have c2 : B1.cell? ⟨w.heap.size, 2, none⟩ = some (.int .i64 p.to) := OB.at_ 2 _ rfl
  have ON := Own.new B1 35 (encP zeroP { data := #[] } Vc.nil Vc.nil Vc.nil).toArray
  rw [hz] at ON
  have HK := Lib.hid hk
  have HB := Lib.hid hB1
  have HS := Lib.hid S0
  clear hk hB1 S0 G1 OB
  rw [show (encP p T ⟨da, dn, dc⟩ ⟨ga, gn, gc⟩ ⟨xa, xn, xc⟩).toArray = #[.int .i64 p.kind, .int .i64 p.frm, .int .i64 p.to, .int .u64 (p.conf.e : Int), .int .i64 p.conf.r, .int .i64 p.m.f, .int .u32 (p.m.q : Int), .int .u64 (p.m.s : Int), .int .i64 p.m.v, .slice da dn dc, .string T, .int .u64 (p.stamp : Int), .int .u32 (p.sent : Int), .slice ga gn gc, .int .u64 (p.hor : Int), .int .i64 p.whom, .int .u32 (p.seq : Int), .int .u64 (p.mem : Int), .int .u64 (p.prom.e : Int), .int .i64 p.prom.r, .int .u64 (p.epoch : Int), .slice xa xn xc] from rfl]
  go_enter Try.func13, Try.ntmps13
  go_upto_region 1 with fail
  rw [show ((w.alloc (.cells #[.int .i64 p.kind, .int .i64 p.frm, .int .i64 p.to, .int .u64 (p.conf.e : Int), .int .i64 p.conf.r, .int .i64 p.m.f, .int .u32 (p.m.q : Int), .int .u64 (p.m.s : Int), .int .i64 p.m.v, .slice da dn dc, .string T, .int .u64 (p.stamp : Int), .int .u32 (p.sent : Int), .slice ga gn gc, .int .u64 (p.hor : Int), .int .i64 p.whom, .int .u32 (p.seq : Int), .int .u64 (p.mem : Int), .int .u64 (p.prom.e : Int), .int .i64 p.prom.r, .int .u64 (p.epoch : Int), .slice xa xn xc] 35)).alloc (.cells #[.int .i64 0, .int .i64 0, .int .i64 0, .int .u64 0, .int .i64 0, .int .i64 0, .int .u32 0, .int .u64 0, .int .i64 0, .slice none 0 0, .string { data := #[] }, .int .u64 0, .int .u32 0, .slice none 0 0, .int .u64 0, .int .i64 0, .int .u32 0, .int .u64 0, .int .u64 0, .int .i64 0, .int .u64 0, .slice none 0 0] 35)) = B1 from HB.out.symm]
  go_upto_region 2 with (refine store_packet (p := baseP 3 p.frm p.to) (T := { data := #[] }) (vd := Vc.nil) (vg := Vc.nil) (vx := Vc.nil) rfl (.tmp 3) (.tmp 10) rfl (w.heap.size + 2) rfl rfl ON ?_)
  have S1 := HS.out
  clear HS c0 c1 c2 ON
  generalize hW1 : ((B1.alloc (.cells (encP zeroP { data := #[] } Vc.nil Vc.nil Vc.nil).toArray 35)).setRow (w.heap.size + 2) (encP (baseP 3 p.frm p.to) { data := #[] } Vc.nil Vc.nil Vc.nil).toArray) = W1 at S1
  rw [show ((B1.alloc (.cells #[.int .i64 0, .int .i64 0, .int .i64 0, .int .u64 0, .int .i64 0, .int .i64 0, .int .u32 0, .int .u64 0, .int .i64 0, .slice none 0 0, .string { data := #[] }, .int .u64 0, .int .u32 0, .slice none 0 0, .int .u64 0, .int .i64 0, .int .u32 0, .int .u64 0, .int .u64 0, .int .i64 0, .int .u64 0, .slice none 0 0] 35)).setRow (w.heap.size + 2) (encP (baseP 3 p.frm p.to) { data := #[] } Vc.nil Vc.nil Vc.nil).toArray) = W1 from hW1]
  clear hW1 HB hz
  obtain ⟨g, hg⟩ : ∃ g, g = w.heap.size + 2 := ⟨_, rfl⟩
  rw [← hg] at S1
  rw [← hg]
  have hne : g ≠ w.heap.size := by omega
  have hne2 : w.heap.size ≠ g := by omega
  clear hg B1
  have c0 : W1.cell? ⟨w.heap.size, 0, none⟩ = some (.int .i64 3) := by rw [← HK.out]; exact S1.box.at_ 0 _ rfl
  have c3 : W1.cell? ⟨w.heap.size, 3, none⟩ = some (.int .u64 (p.conf.e : Int)) := S1.box.at_ 3 _ rfl
  have c4 : W1.cell? ⟨w.heap.size, 4, none⟩ = some (.int .i64 p.conf.r) := S1.box.at_ 4 _ rfl
  have d3 : W1.cell? ⟨g, 3, none⟩ = some (.int .u64 0) := S1.row.at_ 3 _ rfl
  have f3 := S1.row.free 3
  have d4 : W1.cell? ⟨g, 4, none⟩ = some (.int .i64 0) := S1.row.at_ 4 _ rfl
  have f4 := S1.row.free 4
  go_upto_region 5 with fail
  have S2 := (S1.set 3 (.int .u64 (p.conf.e : Int)) (q' := { baseP 3 p.frm p.to with conf := ⟨p.conf.e, 0⟩ }) (T2 := { data := #[] }) (sd := Vc.nil) (sg := Vc.nil) (sx := Vc.nil) rfl ⟨rfl, OwnVec.nil _ _, OwnVec.nil _ _, OwnXs.nil _ _⟩).set 4 (.int .i64 p.conf.r) (q' := { baseP 3 p.frm p.to with conf := p.conf }) (T2 := { data := #[] }) (sd := Vc.nil) (sg := Vc.nil) (sx := Vc.nil) rfl ⟨rfl, OwnVec.nil _ _, OwnVec.nil _ _, OwnXs.nil _ _⟩
  generalize ((W1.setCell ⟨g, 3, none⟩ (.int .u64 (p.conf.e : Int))).setCell ⟨g, 4, none⟩ (.int .i64 p.conf.r)) = W2 at *
  clear S1 c0 c3 c4 d3 d4 f3 f4
  have c0 : W2.cell? ⟨w.heap.size, 0, none⟩ = some (.int .i64 3) := by rw [← HK.out]; exact S2.box.at_ 0 _ rfl
  go_upto_region 12 with fail
  have hgl : g + 1 ≤ W2.drew.heap.size := S2.row.lt
  have hg1 : g < g + 1 := Nat.lt_succ_self _
  have c15 : W2.cell? ⟨w.heap.size, 15, none⟩ = some (.int .i64 p.whom) := S2.box.at_ 15 _ rfl
  have c16 : W2.cell? ⟨w.heap.size, 16, none⟩ = some (.int .u32 (p.seq : Int)) := S2.box.at_ 16 _ rfl
  have d15 : W2.cell? ⟨g, 15, none⟩ = some (.int .i64 0) := S2.row.at_ 15 _ rfl
  have f15 := S2.row.free 15
  have d16 : W2.cell? ⟨g, 16, none⟩ = some (.int .u32 0) := S2.row.at_ 16 _ rfl
  have f16 := S2.row.free 16
  clear c0
  go_region
  have U15 := S2.set 15 (.int .i64 p.whom) (q' := { baseP 3 p.frm p.to with conf := p.conf, whom := p.whom }) (T2 := { data := #[] }) (sd := Vc.nil) (sg := Vc.nil) (sx := Vc.nil) rfl ⟨rfl, OwnVec.nil _ _, OwnVec.nil _ _, OwnXs.nil _ _⟩
  have U16 := U15.set 16 (.int .u32 (p.seq : Int)) (q' := { baseP 3 p.frm p.to with conf := p.conf, whom := p.whom, seq := p.seq }) (T2 := { data := #[] }) (sd := Vc.nil) (sg := Vc.nil) (sx := Vc.nil) rfl ⟨rfl, OwnVec.nil _ _, OwnVec.nil _ _, OwnXs.nil _ _⟩
  have SZ := U16.drew
  have HE : Hid (cleanP p = { baseP 3 p.frm p.to with conf := p.conf, whom := p.whom, seq := p.seq }) := Lib.hid (by unfold cleanP; rw [show rowP p = [.c, .w, .q] from by unfold rowP; rw [HK.out]; rfl, HK.out]; rfl)
  go_upto_region 23 with fail
  go_wp2_with (first | (refine load_packet rfl (.tmp 3) rfl g rfl SZ.row ?_) | (refine store_packet rfl (.tmp 2) (.tmp 99) rfl (w.heap.size + 1) rfl rfl SZ.res ?_))
  (try simp only [Exit.inBlock, Exit.then])
  refine bodyPost_ret (results_packet rfl _ _ (w.heap.size + 1) rfl (SZ.res.row _)) rfl ?_
  exact SZ.done HE.out
end Go.Proofs.Ytgkddjapcdjalaa

/- Cleaning a packet: kind 4. (Written by wip/gen_clean.py.) -/
set_option linter.unusedVariables false
set_option linter.unusedSimpArgs false
namespace Go.Proofs.Ytgkddjapcdjalaa
open Go.RowKit Go.Sort

set_option maxHeartbeats 4000000 in
set_option maxRecDepth 100000 in
theorem pclean_4 (w : World) (p : Pk) (T : ByteArray) (vd vg vx : Vc) (ht : PkAt w p T vd vg vx) (hsm : Small p) (hk : p.kind = 4) :
    Calls Try.prog 13 #[.agg (encP p T vd vg vx).toArray] w (ClPost w p) := by
  obtain ⟨da, dn, dc⟩ := vd
  obtain ⟨ga, gn, gc⟩ := vg
  obtain ⟨xa, xn, xc⟩ := vx
  have S0 := CSt.new (w := w) p T ⟨da, dn, dc⟩ ⟨ga, gn, gc⟩ ⟨xa, xn, xc⟩ 4 p.frm p.to
  have hd : dn ≤ 1048576 := by have := ht.deps.len; simp only at this; rw [← this]; exact hsm.deps
  have hgn : gn ≤ 1048576 := by have := ht.got.len; simp only at this; rw [← this]; exact hsm.got
  have hxn : xn ≤ 1048576 := by have := ht.xs.len; simp only at this; rw [← this]; exact hsm.xs
  have hT : T.size ≤ 1048576 := by rw [size_text ht.text]; exact hsm.text
  have HC : Hid (∀ x ∈ p.x, x.cnt.length ≤ 1048576) := Lib.hid hsm.cnt
  have HT := Lib.hid ht
  clear ht hsm
  obtain ⟨B1, hB1⟩ : ∃ B1, B1 = (w.alloc (.cells (encP p T ⟨da, dn, dc⟩ ⟨ga, gn, gc⟩ ⟨xa, xn, xc⟩).toArray 35)).alloc (.cells (encP zeroP { data := #[] } Vc.nil Vc.nil Vc.nil).toArray 35) := ⟨_, rfl⟩
  have hz : B1.heap.size = w.heap.size + 2 := by rw [hB1]; simp
  have G1 : Grw (w.alloc (.cells (encP p T ⟨da, dn, dc⟩ ⟨ga, gn, gc⟩ ⟨xa, xn, xc⟩).toArray 35)) B1 := by rw [hB1]; exact (Grw.refl _).alloc _
  have OB := (Own.new w 35 (encP p T ⟨da, dn, dc⟩ ⟨ga, gn, gc⟩ ⟨xa, xn, xc⟩).toArray).below G1.below (by simp)
  rw [← hB1] at S0
  have c0 : B1.cell? ⟨w.heap.size, 0, none⟩ = some (.int .i64 4) := by rw [← hk]; exact OB.at_ 0 _ rfl
  have c1 : B1.cell? ⟨w.heap.size, 1, none⟩ = some (.int .i64 p.frm) := OB.at_ 1 _ rfl
  have c2 : B1.cell? ⟨w.heap.size, 2, none⟩ = some (.int .i64 p.to) := OB.at_ 2 _ rfl
  have ON := Own.new B1 35 (encP zeroP { data := #[] } Vc.nil Vc.nil Vc.nil).toArray
  rw [hz] at ON
  have HK := Lib.hid hk
  have HB := Lib.hid hB1
  have HS := Lib.hid S0
  clear hk hB1 S0 G1 OB
  rw [show (encP p T ⟨da, dn, dc⟩ ⟨ga, gn, gc⟩ ⟨xa, xn, xc⟩).toArray = #[.int .i64 p.kind, .int .i64 p.frm, .int .i64 p.to, .int .u64 (p.conf.e : Int), .int .i64 p.conf.r, .int .i64 p.m.f, .int .u32 (p.m.q : Int), .int .u64 (p.m.s : Int), .int .i64 p.m.v, .slice da dn dc, .string T, .int .u64 (p.stamp : Int), .int .u32 (p.sent : Int), .slice ga gn gc, .int .u64 (p.hor : Int), .int .i64 p.whom, .int .u32 (p.seq : Int), .int .u64 (p.mem : Int), .int .u64 (p.prom.e : Int), .int .i64 p.prom.r, .int .u64 (p.epoch : Int), .slice xa xn xc] from rfl]
  go_enter Try.func13, Try.ntmps13
  go_upto_region 1 with fail
  rw [show ((w.alloc (.cells #[.int .i64 p.kind, .int .i64 p.frm, .int .i64 p.to, .int .u64 (p.conf.e : Int), .int .i64 p.conf.r, .int .i64 p.m.f, .int .u32 (p.m.q : Int), .int .u64 (p.m.s : Int), .int .i64 p.m.v, .slice da dn dc, .string T, .int .u64 (p.stamp : Int), .int .u32 (p.sent : Int), .slice ga gn gc, .int .u64 (p.hor : Int), .int .i64 p.whom, .int .u32 (p.seq : Int), .int .u64 (p.mem : Int), .int .u64 (p.prom.e : Int), .int .i64 p.prom.r, .int .u64 (p.epoch : Int), .slice xa xn xc] 35)).alloc (.cells #[.int .i64 0, .int .i64 0, .int .i64 0, .int .u64 0, .int .i64 0, .int .i64 0, .int .u32 0, .int .u64 0, .int .i64 0, .slice none 0 0, .string { data := #[] }, .int .u64 0, .int .u32 0, .slice none 0 0, .int .u64 0, .int .i64 0, .int .u32 0, .int .u64 0, .int .u64 0, .int .i64 0, .int .u64 0, .slice none 0 0] 35)) = B1 from HB.out.symm]
  go_upto_region 2 with (refine store_packet (p := baseP 4 p.frm p.to) (T := { data := #[] }) (vd := Vc.nil) (vg := Vc.nil) (vx := Vc.nil) rfl (.tmp 3) (.tmp 10) rfl (w.heap.size + 2) rfl rfl ON ?_)
  have S1 := HS.out
  clear HS c0 c1 c2 ON
  generalize hW1 : ((B1.alloc (.cells (encP zeroP { data := #[] } Vc.nil Vc.nil Vc.nil).toArray 35)).setRow (w.heap.size + 2) (encP (baseP 4 p.frm p.to) { data := #[] } Vc.nil Vc.nil Vc.nil).toArray) = W1 at S1
  rw [show ((B1.alloc (.cells #[.int .i64 0, .int .i64 0, .int .i64 0, .int .u64 0, .int .i64 0, .int .i64 0, .int .u32 0, .int .u64 0, .int .i64 0, .slice none 0 0, .string { data := #[] }, .int .u64 0, .int .u32 0, .slice none 0 0, .int .u64 0, .int .i64 0, .int .u32 0, .int .u64 0, .int .u64 0, .int .i64 0, .int .u64 0, .slice none 0 0] 35)).setRow (w.heap.size + 2) (encP (baseP 4 p.frm p.to) { data := #[] } Vc.nil Vc.nil Vc.nil).toArray) = W1 from hW1]
  clear hW1 HB hz
  obtain ⟨g, hg⟩ : ∃ g, g = w.heap.size + 2 := ⟨_, rfl⟩
  rw [← hg] at S1
  rw [← hg]
  have hne : g ≠ w.heap.size := by omega
  have hne2 : w.heap.size ≠ g := by omega
  clear hg B1
  have c0 : W1.cell? ⟨w.heap.size, 0, none⟩ = some (.int .i64 4) := by rw [← HK.out]; exact S1.box.at_ 0 _ rfl
  have c3 : W1.cell? ⟨w.heap.size, 3, none⟩ = some (.int .u64 (p.conf.e : Int)) := S1.box.at_ 3 _ rfl
  have c4 : W1.cell? ⟨w.heap.size, 4, none⟩ = some (.int .i64 p.conf.r) := S1.box.at_ 4 _ rfl
  have d3 : W1.cell? ⟨g, 3, none⟩ = some (.int .u64 0) := S1.row.at_ 3 _ rfl
  have f3 := S1.row.free 3
  have d4 : W1.cell? ⟨g, 4, none⟩ = some (.int .i64 0) := S1.row.at_ 4 _ rfl
  have f4 := S1.row.free 4
  go_upto_region 5 with fail
  have S2 := (S1.set 3 (.int .u64 (p.conf.e : Int)) (q' := { baseP 4 p.frm p.to with conf := ⟨p.conf.e, 0⟩ }) (T2 := { data := #[] }) (sd := Vc.nil) (sg := Vc.nil) (sx := Vc.nil) rfl ⟨rfl, OwnVec.nil _ _, OwnVec.nil _ _, OwnXs.nil _ _⟩).set 4 (.int .i64 p.conf.r) (q' := { baseP 4 p.frm p.to with conf := p.conf }) (T2 := { data := #[] }) (sd := Vc.nil) (sg := Vc.nil) (sx := Vc.nil) rfl ⟨rfl, OwnVec.nil _ _, OwnVec.nil _ _, OwnXs.nil _ _⟩
  generalize ((W1.setCell ⟨g, 3, none⟩ (.int .u64 (p.conf.e : Int))).setCell ⟨g, 4, none⟩ (.int .i64 p.conf.r)) = W2 at *
  clear S1 c0 c3 c4 d3 d4 f3 f4
  have c0 : W2.cell? ⟨w.heap.size, 0, none⟩ = some (.int .i64 4) := by rw [← HK.out]; exact S2.box.at_ 0 _ rfl
  go_upto_region 14 with fail
  have hgl : g + 1 ≤ W2.drew.heap.size := S2.row.lt
  have hg1 : g < g + 1 := Nat.lt_succ_self _
  have c17 : W2.cell? ⟨w.heap.size, 17, none⟩ = some (.int .u64 (p.mem : Int)) := S2.box.at_ 17 _ rfl
  have c18 : W2.cell? ⟨w.heap.size, 18, none⟩ = some (.int .u64 (p.prom.e : Int)) := S2.box.at_ 18 _ rfl
  have c19 : W2.cell? ⟨w.heap.size, 19, none⟩ = some (.int .i64 p.prom.r) := S2.box.at_ 19 _ rfl
  have c20 : W2.cell? ⟨w.heap.size, 20, none⟩ = some (.int .u64 (p.epoch : Int)) := S2.box.at_ 20 _ rfl
  have d18 : W2.cell? ⟨g, 18, none⟩ = some (.int .u64 0) := S2.row.at_ 18 _ rfl
  have f18 := S2.row.free 18
  have d19 : W2.cell? ⟨g, 19, none⟩ = some (.int .i64 0) := S2.row.at_ 19 _ rfl
  have f19 := S2.row.free 19
  have d20 : W2.cell? ⟨g, 20, none⟩ = some (.int .u64 0) := S2.row.at_ 20 _ rfl
  have f20 := S2.row.free 20
  have d17 : W2.cell? ⟨g, 17, none⟩ = some (.int .u64 0) := S2.row.at_ 17 _ rfl
  have f17 := S2.row.free 17
  clear c0
  go_region
  have U18 := S2.set 18 (.int .u64 (p.prom.e : Int)) (q' := { baseP 4 p.frm p.to with conf := p.conf, prom := ⟨p.prom.e, 0⟩ }) (T2 := { data := #[] }) (sd := Vc.nil) (sg := Vc.nil) (sx := Vc.nil) rfl ⟨rfl, OwnVec.nil _ _, OwnVec.nil _ _, OwnXs.nil _ _⟩
  have U19 := U18.set 19 (.int .i64 p.prom.r) (q' := { baseP 4 p.frm p.to with conf := p.conf, prom := p.prom }) (T2 := { data := #[] }) (sd := Vc.nil) (sg := Vc.nil) (sx := Vc.nil) rfl ⟨rfl, OwnVec.nil _ _, OwnVec.nil _ _, OwnXs.nil _ _⟩
  have U20 := U19.set 20 (.int .u64 (p.epoch : Int)) (q' := { baseP 4 p.frm p.to with conf := p.conf, prom := p.prom, epoch := p.epoch }) (T2 := { data := #[] }) (sd := Vc.nil) (sg := Vc.nil) (sx := Vc.nil) rfl ⟨rfl, OwnVec.nil _ _, OwnVec.nil _ _, OwnXs.nil _ _⟩
  have U17 := U20.set 17 (.int .u64 (p.mem : Int)) (q' := { baseP 4 p.frm p.to with conf := p.conf, prom := p.prom, epoch := p.epoch, mem := p.mem }) (T2 := { data := #[] }) (sd := Vc.nil) (sg := Vc.nil) (sx := Vc.nil) rfl ⟨rfl, OwnVec.nil _ _, OwnVec.nil _ _, OwnXs.nil _ _⟩
  have SZ := U17.drew
  have HE : Hid (cleanP p = { baseP 4 p.frm p.to with conf := p.conf, prom := p.prom, epoch := p.epoch, mem := p.mem }) := Lib.hid (by unfold cleanP; rw [show rowP p = [.c, .p, .e, .b] from by unfold rowP; rw [HK.out]; rfl, HK.out]; rfl)
  go_upto_region 23 with fail
  go_wp2_with (first | (refine load_packet rfl (.tmp 3) rfl g rfl SZ.row ?_) | (refine store_packet rfl (.tmp 2) (.tmp 99) rfl (w.heap.size + 1) rfl rfl SZ.res ?_))
  (try simp only [Exit.inBlock, Exit.then])
  refine bodyPost_ret (results_packet rfl _ _ (w.heap.size + 1) rfl (SZ.res.row _)) rfl ?_
  exact SZ.done HE.out
end Go.Proofs.Ytgkddjapcdjalaa

/- Cleaning a packet: kind 5. (Written by wip/gen_clean.py.) -/
set_option linter.unusedVariables false
set_option linter.unusedSimpArgs false
namespace Go.Proofs.Ytgkddjapcdjalaa
open Go.RowKit Go.Sort

set_option maxHeartbeats 4000000 in
set_option maxRecDepth 100000 in
theorem pclean_5 (w : World) (p : Pk) (T : ByteArray) (vd vg vx : Vc) (ht : PkAt w p T vd vg vx) (hsm : Small p) (hk : p.kind = 5) :
    Calls Try.prog 13 #[.agg (encP p T vd vg vx).toArray] w (ClPost w p) := by
  obtain ⟨da, dn, dc⟩ := vd
  obtain ⟨ga, gn, gc⟩ := vg
  obtain ⟨xa, xn, xc⟩ := vx
  have S0 := CSt.new (w := w) p T ⟨da, dn, dc⟩ ⟨ga, gn, gc⟩ ⟨xa, xn, xc⟩ 5 p.frm p.to
  have hd : dn ≤ 1048576 := by have := ht.deps.len; simp only at this; rw [← this]; exact hsm.deps
  have hgn : gn ≤ 1048576 := by have := ht.got.len; simp only at this; rw [← this]; exact hsm.got
  have hxn : xn ≤ 1048576 := by have := ht.xs.len; simp only at this; rw [← this]; exact hsm.xs
  have hT : T.size ≤ 1048576 := by rw [size_text ht.text]; exact hsm.text
  have HC : Hid (∀ x ∈ p.x, x.cnt.length ≤ 1048576) := Lib.hid hsm.cnt
  have HT := Lib.hid ht
  clear ht hsm
  obtain ⟨B1, hB1⟩ : ∃ B1, B1 = (w.alloc (.cells (encP p T ⟨da, dn, dc⟩ ⟨ga, gn, gc⟩ ⟨xa, xn, xc⟩).toArray 35)).alloc (.cells (encP zeroP { data := #[] } Vc.nil Vc.nil Vc.nil).toArray 35) := ⟨_, rfl⟩
  have hz : B1.heap.size = w.heap.size + 2 := by rw [hB1]; simp
  have G1 : Grw (w.alloc (.cells (encP p T ⟨da, dn, dc⟩ ⟨ga, gn, gc⟩ ⟨xa, xn, xc⟩).toArray 35)) B1 := by rw [hB1]; exact (Grw.refl _).alloc _
  have OB := (Own.new w 35 (encP p T ⟨da, dn, dc⟩ ⟨ga, gn, gc⟩ ⟨xa, xn, xc⟩).toArray).below G1.below (by simp)
  rw [← hB1] at S0
  have c0 : B1.cell? ⟨w.heap.size, 0, none⟩ = some (.int .i64 5) := by rw [← hk]; exact OB.at_ 0 _ rfl
  have c1 : B1.cell? ⟨w.heap.size, 1, none⟩ = some (.int .i64 p.frm) := OB.at_ 1 _ rfl
  have c2 : B1.cell? ⟨w.heap.size, 2, none⟩ = some (.int .i64 p.to) := OB.at_ 2 _ rfl
  have ON := Own.new B1 35 (encP zeroP { data := #[] } Vc.nil Vc.nil Vc.nil).toArray
  rw [hz] at ON
  have HK := Lib.hid hk
  have HB := Lib.hid hB1
  have HS := Lib.hid S0
  clear hk hB1 S0 G1 OB
  rw [show (encP p T ⟨da, dn, dc⟩ ⟨ga, gn, gc⟩ ⟨xa, xn, xc⟩).toArray = #[.int .i64 p.kind, .int .i64 p.frm, .int .i64 p.to, .int .u64 (p.conf.e : Int), .int .i64 p.conf.r, .int .i64 p.m.f, .int .u32 (p.m.q : Int), .int .u64 (p.m.s : Int), .int .i64 p.m.v, .slice da dn dc, .string T, .int .u64 (p.stamp : Int), .int .u32 (p.sent : Int), .slice ga gn gc, .int .u64 (p.hor : Int), .int .i64 p.whom, .int .u32 (p.seq : Int), .int .u64 (p.mem : Int), .int .u64 (p.prom.e : Int), .int .i64 p.prom.r, .int .u64 (p.epoch : Int), .slice xa xn xc] from rfl]
  go_enter Try.func13, Try.ntmps13
  go_upto_region 1 with fail
  rw [show ((w.alloc (.cells #[.int .i64 p.kind, .int .i64 p.frm, .int .i64 p.to, .int .u64 (p.conf.e : Int), .int .i64 p.conf.r, .int .i64 p.m.f, .int .u32 (p.m.q : Int), .int .u64 (p.m.s : Int), .int .i64 p.m.v, .slice da dn dc, .string T, .int .u64 (p.stamp : Int), .int .u32 (p.sent : Int), .slice ga gn gc, .int .u64 (p.hor : Int), .int .i64 p.whom, .int .u32 (p.seq : Int), .int .u64 (p.mem : Int), .int .u64 (p.prom.e : Int), .int .i64 p.prom.r, .int .u64 (p.epoch : Int), .slice xa xn xc] 35)).alloc (.cells #[.int .i64 0, .int .i64 0, .int .i64 0, .int .u64 0, .int .i64 0, .int .i64 0, .int .u32 0, .int .u64 0, .int .i64 0, .slice none 0 0, .string { data := #[] }, .int .u64 0, .int .u32 0, .slice none 0 0, .int .u64 0, .int .i64 0, .int .u32 0, .int .u64 0, .int .u64 0, .int .i64 0, .int .u64 0, .slice none 0 0] 35)) = B1 from HB.out.symm]
  go_upto_region 2 with (refine store_packet (p := baseP 5 p.frm p.to) (T := { data := #[] }) (vd := Vc.nil) (vg := Vc.nil) (vx := Vc.nil) rfl (.tmp 3) (.tmp 10) rfl (w.heap.size + 2) rfl rfl ON ?_)
  have S1 := HS.out
  clear HS c0 c1 c2 ON
  generalize hW1 : ((B1.alloc (.cells (encP zeroP { data := #[] } Vc.nil Vc.nil Vc.nil).toArray 35)).setRow (w.heap.size + 2) (encP (baseP 5 p.frm p.to) { data := #[] } Vc.nil Vc.nil Vc.nil).toArray) = W1 at S1
  rw [show ((B1.alloc (.cells #[.int .i64 0, .int .i64 0, .int .i64 0, .int .u64 0, .int .i64 0, .int .i64 0, .int .u32 0, .int .u64 0, .int .i64 0, .slice none 0 0, .string { data := #[] }, .int .u64 0, .int .u32 0, .slice none 0 0, .int .u64 0, .int .i64 0, .int .u32 0, .int .u64 0, .int .u64 0, .int .i64 0, .int .u64 0, .slice none 0 0] 35)).setRow (w.heap.size + 2) (encP (baseP 5 p.frm p.to) { data := #[] } Vc.nil Vc.nil Vc.nil).toArray) = W1 from hW1]
  clear hW1 HB hz
  obtain ⟨g, hg⟩ : ∃ g, g = w.heap.size + 2 := ⟨_, rfl⟩
  rw [← hg] at S1
  rw [← hg]
  have hne : g ≠ w.heap.size := by omega
  have hne2 : w.heap.size ≠ g := by omega
  clear hg B1
  have c0 : W1.cell? ⟨w.heap.size, 0, none⟩ = some (.int .i64 5) := by rw [← HK.out]; exact S1.box.at_ 0 _ rfl
  have c3 : W1.cell? ⟨w.heap.size, 3, none⟩ = some (.int .u64 (p.conf.e : Int)) := S1.box.at_ 3 _ rfl
  have c4 : W1.cell? ⟨w.heap.size, 4, none⟩ = some (.int .i64 p.conf.r) := S1.box.at_ 4 _ rfl
  have d3 : W1.cell? ⟨g, 3, none⟩ = some (.int .u64 0) := S1.row.at_ 3 _ rfl
  have f3 := S1.row.free 3
  have d4 : W1.cell? ⟨g, 4, none⟩ = some (.int .i64 0) := S1.row.at_ 4 _ rfl
  have f4 := S1.row.free 4
  go_upto_region 5 with fail
  have S2 := (S1.set 3 (.int .u64 (p.conf.e : Int)) (q' := { baseP 5 p.frm p.to with conf := ⟨p.conf.e, 0⟩ }) (T2 := { data := #[] }) (sd := Vc.nil) (sg := Vc.nil) (sx := Vc.nil) rfl ⟨rfl, OwnVec.nil _ _, OwnVec.nil _ _, OwnXs.nil _ _⟩).set 4 (.int .i64 p.conf.r) (q' := { baseP 5 p.frm p.to with conf := p.conf }) (T2 := { data := #[] }) (sd := Vc.nil) (sg := Vc.nil) (sx := Vc.nil) rfl ⟨rfl, OwnVec.nil _ _, OwnVec.nil _ _, OwnXs.nil _ _⟩
  generalize ((W1.setCell ⟨g, 3, none⟩ (.int .u64 (p.conf.e : Int))).setCell ⟨g, 4, none⟩ (.int .i64 p.conf.r)) = W2 at *
  clear S1 c0 c3 c4 d3 d4 f3 f4
  have c0 : W2.cell? ⟨w.heap.size, 0, none⟩ = some (.int .i64 5) := by rw [← HK.out]; exact S2.box.at_ 0 _ rfl
  go_upto_region 16 with fail
  have hgl : g + 1 ≤ W2.drew.heap.size := S2.row.lt
  have hg1 : g < g + 1 := Nat.lt_succ_self _
  have c17 : W2.cell? ⟨w.heap.size, 17, none⟩ = some (.int .u64 (p.mem : Int)) := S2.box.at_ 17 _ rfl
  have d17 : W2.cell? ⟨g, 17, none⟩ = some (.int .u64 0) := S2.row.at_ 17 _ rfl
  have f17 := S2.row.free 17
  go_upto_region 23 with fail
  have U17 := S2.set 17 (.int .u64 (p.mem : Int)) (q' := { baseP 5 p.frm p.to with conf := p.conf, mem := p.mem }) (T2 := { data := #[] }) (sd := Vc.nil) (sg := Vc.nil) (sx := Vc.nil) rfl ⟨rfl, OwnVec.nil _ _, OwnVec.nil _ _, OwnXs.nil _ _⟩
  have HE : Hid (cleanP p = { baseP 5 p.frm p.to with conf := p.conf, mem := p.mem }) := Lib.hid (by unfold cleanP; rw [show rowP p = [.c, .b] from by unfold rowP; rw [HK.out]; rfl, HK.out]; rfl)
  go_wp2_with (first | (refine load_packet rfl (.tmp 3) rfl g rfl U17.row ?_) | (refine store_packet rfl (.tmp 2) (.tmp 99) rfl (w.heap.size + 1) rfl rfl U17.res ?_))
  (try simp only [Exit.inBlock, Exit.then])
  refine bodyPost_ret (results_packet rfl _ _ (w.heap.size + 1) rfl (U17.res.row _)) rfl ?_
  exact U17.done HE.out
end Go.Proofs.Ytgkddjapcdjalaa

/- Cleaning a packet: kind 6. (Written by wip/gen_clean.py.) -/
set_option linter.unusedVariables false
set_option linter.unusedSimpArgs false
namespace Go.Proofs.Ytgkddjapcdjalaa
open Go.RowKit Go.Sort

set_option maxHeartbeats 4000000 in
set_option maxRecDepth 100000 in
theorem pclean_6 (w : World) (p : Pk) (T : ByteArray) (vd vg vx : Vc) (ht : PkAt w p T vd vg vx) (hsm : Small p) (hk : p.kind = 6) :
    Calls Try.prog 13 #[.agg (encP p T vd vg vx).toArray] w (ClPost w p) := by
  obtain ⟨da, dn, dc⟩ := vd
  obtain ⟨ga, gn, gc⟩ := vg
  obtain ⟨xa, xn, xc⟩ := vx
  have S0 := CSt.new (w := w) p T ⟨da, dn, dc⟩ ⟨ga, gn, gc⟩ ⟨xa, xn, xc⟩ 6 p.frm p.to
  have hd : dn ≤ 1048576 := by have := ht.deps.len; simp only at this; rw [← this]; exact hsm.deps
  have hgn : gn ≤ 1048576 := by have := ht.got.len; simp only at this; rw [← this]; exact hsm.got
  have hxn : xn ≤ 1048576 := by have := ht.xs.len; simp only at this; rw [← this]; exact hsm.xs
  have hT : T.size ≤ 1048576 := by rw [size_text ht.text]; exact hsm.text
  have HC : Hid (∀ x ∈ p.x, x.cnt.length ≤ 1048576) := Lib.hid hsm.cnt
  have HT := Lib.hid ht
  clear ht hsm
  obtain ⟨B1, hB1⟩ : ∃ B1, B1 = (w.alloc (.cells (encP p T ⟨da, dn, dc⟩ ⟨ga, gn, gc⟩ ⟨xa, xn, xc⟩).toArray 35)).alloc (.cells (encP zeroP { data := #[] } Vc.nil Vc.nil Vc.nil).toArray 35) := ⟨_, rfl⟩
  have hz : B1.heap.size = w.heap.size + 2 := by rw [hB1]; simp
  have G1 : Grw (w.alloc (.cells (encP p T ⟨da, dn, dc⟩ ⟨ga, gn, gc⟩ ⟨xa, xn, xc⟩).toArray 35)) B1 := by rw [hB1]; exact (Grw.refl _).alloc _
  have OB := (Own.new w 35 (encP p T ⟨da, dn, dc⟩ ⟨ga, gn, gc⟩ ⟨xa, xn, xc⟩).toArray).below G1.below (by simp)
  rw [← hB1] at S0
  have c0 : B1.cell? ⟨w.heap.size, 0, none⟩ = some (.int .i64 6) := by rw [← hk]; exact OB.at_ 0 _ rfl
  have c1 : B1.cell? ⟨w.heap.size, 1, none⟩ = some (.int .i64 p.frm) := OB.at_ 1 _ rfl
  have c2 : B1.cell? ⟨w.heap.size, 2, none⟩ = some (.int .i64 p.to) := OB.at_ 2 _ rfl
  have ON := Own.new B1 35 (encP zeroP { data := #[] } Vc.nil Vc.nil Vc.nil).toArray
  rw [hz] at ON
  have HK := Lib.hid hk
  have HB := Lib.hid hB1
  have HS := Lib.hid S0
  clear hk hB1 S0 G1 OB
  rw [show (encP p T ⟨da, dn, dc⟩ ⟨ga, gn, gc⟩ ⟨xa, xn, xc⟩).toArray = #[.int .i64 p.kind, .int .i64 p.frm, .int .i64 p.to, .int .u64 (p.conf.e : Int), .int .i64 p.conf.r, .int .i64 p.m.f, .int .u32 (p.m.q : Int), .int .u64 (p.m.s : Int), .int .i64 p.m.v, .slice da dn dc, .string T, .int .u64 (p.stamp : Int), .int .u32 (p.sent : Int), .slice ga gn gc, .int .u64 (p.hor : Int), .int .i64 p.whom, .int .u32 (p.seq : Int), .int .u64 (p.mem : Int), .int .u64 (p.prom.e : Int), .int .i64 p.prom.r, .int .u64 (p.epoch : Int), .slice xa xn xc] from rfl]
  go_enter Try.func13, Try.ntmps13
  go_upto_region 1 with fail
  rw [show ((w.alloc (.cells #[.int .i64 p.kind, .int .i64 p.frm, .int .i64 p.to, .int .u64 (p.conf.e : Int), .int .i64 p.conf.r, .int .i64 p.m.f, .int .u32 (p.m.q : Int), .int .u64 (p.m.s : Int), .int .i64 p.m.v, .slice da dn dc, .string T, .int .u64 (p.stamp : Int), .int .u32 (p.sent : Int), .slice ga gn gc, .int .u64 (p.hor : Int), .int .i64 p.whom, .int .u32 (p.seq : Int), .int .u64 (p.mem : Int), .int .u64 (p.prom.e : Int), .int .i64 p.prom.r, .int .u64 (p.epoch : Int), .slice xa xn xc] 35)).alloc (.cells #[.int .i64 0, .int .i64 0, .int .i64 0, .int .u64 0, .int .i64 0, .int .i64 0, .int .u32 0, .int .u64 0, .int .i64 0, .slice none 0 0, .string { data := #[] }, .int .u64 0, .int .u32 0, .slice none 0 0, .int .u64 0, .int .i64 0, .int .u32 0, .int .u64 0, .int .u64 0, .int .i64 0, .int .u64 0, .slice none 0 0] 35)) = B1 from HB.out.symm]
  go_upto_region 2 with (refine store_packet (p := baseP 6 p.frm p.to) (T := { data := #[] }) (vd := Vc.nil) (vg := Vc.nil) (vx := Vc.nil) rfl (.tmp 3) (.tmp 10) rfl (w.heap.size + 2) rfl rfl ON ?_)
  have S1 := HS.out
  clear HS c0 c1 c2 ON
  generalize hW1 : ((B1.alloc (.cells (encP zeroP { data := #[] } Vc.nil Vc.nil Vc.nil).toArray 35)).setRow (w.heap.size + 2) (encP (baseP 6 p.frm p.to) { data := #[] } Vc.nil Vc.nil Vc.nil).toArray) = W1 at S1
  rw [show ((B1.alloc (.cells #[.int .i64 0, .int .i64 0, .int .i64 0, .int .u64 0, .int .i64 0, .int .i64 0, .int .u32 0, .int .u64 0, .int .i64 0, .slice none 0 0, .string { data := #[] }, .int .u64 0, .int .u32 0, .slice none 0 0, .int .u64 0, .int .i64 0, .int .u32 0, .int .u64 0, .int .u64 0, .int .i64 0, .int .u64 0, .slice none 0 0] 35)).setRow (w.heap.size + 2) (encP (baseP 6 p.frm p.to) { data := #[] } Vc.nil Vc.nil Vc.nil).toArray) = W1 from hW1]
  clear hW1 HB hz
  obtain ⟨g, hg⟩ : ∃ g, g = w.heap.size + 2 := ⟨_, rfl⟩
  rw [← hg] at S1
  rw [← hg]
  have hne : g ≠ w.heap.size := by omega
  have hne2 : w.heap.size ≠ g := by omega
  clear hg B1
  have c0 : W1.cell? ⟨w.heap.size, 0, none⟩ = some (.int .i64 6) := by rw [← HK.out]; exact S1.box.at_ 0 _ rfl
  have c3 : W1.cell? ⟨w.heap.size, 3, none⟩ = some (.int .u64 (p.conf.e : Int)) := S1.box.at_ 3 _ rfl
  have c4 : W1.cell? ⟨w.heap.size, 4, none⟩ = some (.int .i64 p.conf.r) := S1.box.at_ 4 _ rfl
  have d3 : W1.cell? ⟨g, 3, none⟩ = some (.int .u64 0) := S1.row.at_ 3 _ rfl
  have f3 := S1.row.free 3
  have d4 : W1.cell? ⟨g, 4, none⟩ = some (.int .i64 0) := S1.row.at_ 4 _ rfl
  have f4 := S1.row.free 4
  go_upto_region 5 with fail
  have S2 := (S1.set 3 (.int .u64 (p.conf.e : Int)) (q' := { baseP 6 p.frm p.to with conf := ⟨p.conf.e, 0⟩ }) (T2 := { data := #[] }) (sd := Vc.nil) (sg := Vc.nil) (sx := Vc.nil) rfl ⟨rfl, OwnVec.nil _ _, OwnVec.nil _ _, OwnXs.nil _ _⟩).set 4 (.int .i64 p.conf.r) (q' := { baseP 6 p.frm p.to with conf := p.conf }) (T2 := { data := #[] }) (sd := Vc.nil) (sg := Vc.nil) (sx := Vc.nil) rfl ⟨rfl, OwnVec.nil _ _, OwnVec.nil _ _, OwnXs.nil _ _⟩
  generalize ((W1.setCell ⟨g, 3, none⟩ (.int .u64 (p.conf.e : Int))).setCell ⟨g, 4, none⟩ (.int .i64 p.conf.r)) = W2 at *
  clear S1 c0 c3 c4 d3 d4 f3 f4
  have c0 : W2.cell? ⟨w.heap.size, 0, none⟩ = some (.int .i64 6) := by rw [← HK.out]; exact S2.box.at_ 0 _ rfl
  go_upto_region 18 with fail
  have hgl : g + 1 ≤ W2.drew.heap.size := S2.row.lt
  have hg1 : g < g + 1 := Nat.lt_succ_self _
  have c21 : W2.cell? ⟨w.heap.size, 21, none⟩ = some (.slice xa xn xc) := S2.box.at_ 21 _ rfl
  have HA := S2.at_ HT.out
  have HCALL := Lib.hid (cexchanges ⟨xa, xn, xc⟩ p.x W2 HA.xs hxn HC.out)
  clear HA
  go_wp2_with fail
  refine HCALL.out.mono ?_
  rintro e w3 ⟨⟨ua, un, uc⟩, rfl, ho, hb⟩
  have S3 := S2.go hb
  have HO := Lib.hid (ho.mono hgl)
  have d21 : w3.cell? ⟨g, 21, none⟩ = some (.slice none 0 0) := S3.row.at_ 21 _ rfl
  have f21 := S3.row.free 21
  clear ho hb
  clear HCALL c21
  have c0 : w3.cell? ⟨w.heap.size, 0, none⟩ = some (.int .i64 6) := by rw [← HK.out]; exact S3.box.at_ 0 _ rfl
  go_upto_region 23 with fail
  have SZ := S3.set 21 (.slice ua un uc) (q' := { baseP 6 p.frm p.to with conf := p.conf, x := p.x }) (T2 := { data := #[] }) (sd := Vc.nil) (sg := Vc.nil) (sx := ⟨ua, un, uc⟩) rfl ⟨rfl, OwnVec.nil _ _, OwnVec.nil _ _, HO.out⟩
  have HE : Hid (cleanP p = { baseP 6 p.frm p.to with conf := p.conf, x := p.x }) := Lib.hid (by unfold cleanP; rw [show rowP p = [.c, .x] from by unfold rowP; rw [HK.out]; rfl, HK.out]; rfl)
  go_wp2_with (first | (refine load_packet rfl (.tmp 3) rfl g rfl SZ.row ?_) | (refine store_packet rfl (.tmp 2) (.tmp 99) rfl (w.heap.size + 1) rfl rfl SZ.res ?_))
  (try simp only [Exit.inBlock, Exit.then])
  refine bodyPost_ret (results_packet rfl _ _ (w.heap.size + 1) rfl (SZ.res.row _)) rfl ?_
  exact SZ.done HE.out
end Go.Proofs.Ytgkddjapcdjalaa

/- Cleaning a packet: kind 7. (Written by wip/gen_clean.py.) -/
set_option linter.unusedVariables false
set_option linter.unusedSimpArgs false
namespace Go.Proofs.Ytgkddjapcdjalaa
open Go.RowKit Go.Sort

set_option maxHeartbeats 4000000 in
set_option maxRecDepth 100000 in
theorem pclean_7 (w : World) (p : Pk) (T : ByteArray) (vd vg vx : Vc) (ht : PkAt w p T vd vg vx) (hsm : Small p) (hk : p.kind = 7) :
    Calls Try.prog 13 #[.agg (encP p T vd vg vx).toArray] w (ClPost w p) := by
  obtain ⟨da, dn, dc⟩ := vd
  obtain ⟨ga, gn, gc⟩ := vg
  obtain ⟨xa, xn, xc⟩ := vx
  have S0 := CSt.new (w := w) p T ⟨da, dn, dc⟩ ⟨ga, gn, gc⟩ ⟨xa, xn, xc⟩ 7 p.frm p.to
  have hd : dn ≤ 1048576 := by have := ht.deps.len; simp only at this; rw [← this]; exact hsm.deps
  have hgn : gn ≤ 1048576 := by have := ht.got.len; simp only at this; rw [← this]; exact hsm.got
  have hxn : xn ≤ 1048576 := by have := ht.xs.len; simp only at this; rw [← this]; exact hsm.xs
  have hT : T.size ≤ 1048576 := by rw [size_text ht.text]; exact hsm.text
  have HC : Hid (∀ x ∈ p.x, x.cnt.length ≤ 1048576) := Lib.hid hsm.cnt
  have HT := Lib.hid ht
  clear ht hsm
  obtain ⟨B1, hB1⟩ : ∃ B1, B1 = (w.alloc (.cells (encP p T ⟨da, dn, dc⟩ ⟨ga, gn, gc⟩ ⟨xa, xn, xc⟩).toArray 35)).alloc (.cells (encP zeroP { data := #[] } Vc.nil Vc.nil Vc.nil).toArray 35) := ⟨_, rfl⟩
  have hz : B1.heap.size = w.heap.size + 2 := by rw [hB1]; simp
  have G1 : Grw (w.alloc (.cells (encP p T ⟨da, dn, dc⟩ ⟨ga, gn, gc⟩ ⟨xa, xn, xc⟩).toArray 35)) B1 := by rw [hB1]; exact (Grw.refl _).alloc _
  have OB := (Own.new w 35 (encP p T ⟨da, dn, dc⟩ ⟨ga, gn, gc⟩ ⟨xa, xn, xc⟩).toArray).below G1.below (by simp)
  rw [← hB1] at S0
  have c0 : B1.cell? ⟨w.heap.size, 0, none⟩ = some (.int .i64 7) := by rw [← hk]; exact OB.at_ 0 _ rfl
  have c1 : B1.cell? ⟨w.heap.size, 1, none⟩ = some (.int .i64 p.frm) := OB.at_ 1 _ rfl
  have c2 : B1.cell? ⟨w.heap.size, 2, none⟩ = some (.int .i64 p.to) := OB.at_ 2 _ rfl
  have ON := Own.new B1 35 (encP zeroP { data := #[] } Vc.nil Vc.nil Vc.nil).toArray
  rw [hz] at ON
  have HK := Lib.hid hk
  have HB := Lib.hid hB1
  have HS := Lib.hid S0
  clear hk hB1 S0 G1 OB
  rw [show (encP p T ⟨da, dn, dc⟩ ⟨ga, gn, gc⟩ ⟨xa, xn, xc⟩).toArray = #[.int .i64 p.kind, .int .i64 p.frm, .int .i64 p.to, .int .u64 (p.conf.e : Int), .int .i64 p.conf.r, .int .i64 p.m.f, .int .u32 (p.m.q : Int), .int .u64 (p.m.s : Int), .int .i64 p.m.v, .slice da dn dc, .string T, .int .u64 (p.stamp : Int), .int .u32 (p.sent : Int), .slice ga gn gc, .int .u64 (p.hor : Int), .int .i64 p.whom, .int .u32 (p.seq : Int), .int .u64 (p.mem : Int), .int .u64 (p.prom.e : Int), .int .i64 p.prom.r, .int .u64 (p.epoch : Int), .slice xa xn xc] from rfl]
  go_enter Try.func13, Try.ntmps13
  go_upto_region 1 with fail
  rw [show ((w.alloc (.cells #[.int .i64 p.kind, .int .i64 p.frm, .int .i64 p.to, .int .u64 (p.conf.e : Int), .int .i64 p.conf.r, .int .i64 p.m.f, .int .u32 (p.m.q : Int), .int .u64 (p.m.s : Int), .int .i64 p.m.v, .slice da dn dc, .string T, .int .u64 (p.stamp : Int), .int .u32 (p.sent : Int), .slice ga gn gc, .int .u64 (p.hor : Int), .int .i64 p.whom, .int .u32 (p.seq : Int), .int .u64 (p.mem : Int), .int .u64 (p.prom.e : Int), .int .i64 p.prom.r, .int .u64 (p.epoch : Int), .slice xa xn xc] 35)).alloc (.cells #[.int .i64 0, .int .i64 0, .int .i64 0, .int .u64 0, .int .i64 0, .int .i64 0, .int .u32 0, .int .u64 0, .int .i64 0, .slice none 0 0, .string { data := #[] }, .int .u64 0, .int .u32 0, .slice none 0 0, .int .u64 0, .int .i64 0, .int .u32 0, .int .u64 0, .int .u64 0, .int .i64 0, .int .u64 0, .slice none 0 0] 35)) = B1 from HB.out.symm]
  go_upto_region 2 with (refine store_packet (p := baseP 7 p.frm p.to) (T := { data := #[] }) (vd := Vc.nil) (vg := Vc.nil) (vx := Vc.nil) rfl (.tmp 3) (.tmp 10) rfl (w.heap.size + 2) rfl rfl ON ?_)
  have S1 := HS.out
  clear HS c0 c1 c2 ON
  generalize hW1 : ((B1.alloc (.cells (encP zeroP { data := #[] } Vc.nil Vc.nil Vc.nil).toArray 35)).setRow (w.heap.size + 2) (encP (baseP 7 p.frm p.to) { data := #[] } Vc.nil Vc.nil Vc.nil).toArray) = W1 at S1
  rw [show ((B1.alloc (.cells #[.int .i64 0, .int .i64 0, .int .i64 0, .int .u64 0, .int .i64 0, .int .i64 0, .int .u32 0, .int .u64 0, .int .i64 0, .slice none 0 0, .string { data := #[] }, .int .u64 0, .int .u32 0, .slice none 0 0, .int .u64 0, .int .i64 0, .int .u32 0, .int .u64 0, .int .u64 0, .int .i64 0, .int .u64 0, .slice none 0 0] 35)).setRow (w.heap.size + 2) (encP (baseP 7 p.frm p.to) { data := #[] } Vc.nil Vc.nil Vc.nil).toArray) = W1 from hW1]
  clear hW1 HB hz
  obtain ⟨g, hg⟩ : ∃ g, g = w.heap.size + 2 := ⟨_, rfl⟩
  rw [← hg] at S1
  rw [← hg]
  have hne : g ≠ w.heap.size := by omega
  have hne2 : w.heap.size ≠ g := by omega
  clear hg B1
  have c0 : W1.cell? ⟨w.heap.size, 0, none⟩ = some (.int .i64 7) := by rw [← HK.out]; exact S1.box.at_ 0 _ rfl
  have c3 : W1.cell? ⟨w.heap.size, 3, none⟩ = some (.int .u64 (p.conf.e : Int)) := S1.box.at_ 3 _ rfl
  have c4 : W1.cell? ⟨w.heap.size, 4, none⟩ = some (.int .i64 p.conf.r) := S1.box.at_ 4 _ rfl
  have d3 : W1.cell? ⟨g, 3, none⟩ = some (.int .u64 0) := S1.row.at_ 3 _ rfl
  have f3 := S1.row.free 3
  have d4 : W1.cell? ⟨g, 4, none⟩ = some (.int .i64 0) := S1.row.at_ 4 _ rfl
  have f4 := S1.row.free 4
  go_upto_region 5 with fail
  have S2 := (S1.set 3 (.int .u64 (p.conf.e : Int)) (q' := { baseP 7 p.frm p.to with conf := ⟨p.conf.e, 0⟩ }) (T2 := { data := #[] }) (sd := Vc.nil) (sg := Vc.nil) (sx := Vc.nil) rfl ⟨rfl, OwnVec.nil _ _, OwnVec.nil _ _, OwnXs.nil _ _⟩).set 4 (.int .i64 p.conf.r) (q' := { baseP 7 p.frm p.to with conf := p.conf }) (T2 := { data := #[] }) (sd := Vc.nil) (sg := Vc.nil) (sx := Vc.nil) rfl ⟨rfl, OwnVec.nil _ _, OwnVec.nil _ _, OwnXs.nil _ _⟩
  generalize ((W1.setCell ⟨g, 3, none⟩ (.int .u64 (p.conf.e : Int))).setCell ⟨g, 4, none⟩ (.int .i64 p.conf.r)) = W2 at *
  clear S1 c0 c3 c4 d3 d4 f3 f4
  have c0 : W2.cell? ⟨w.heap.size, 0, none⟩ = some (.int .i64 7) := by rw [← HK.out]; exact S2.box.at_ 0 _ rfl
  go_upto_region 20 with fail
  have hgl : g + 1 ≤ W2.drew.heap.size := S2.row.lt
  have hg1 : g < g + 1 := Nat.lt_succ_self _
  have c17 : W2.cell? ⟨w.heap.size, 17, none⟩ = some (.int .u64 (p.mem : Int)) := S2.box.at_ 17 _ rfl
  have c21 : W2.cell? ⟨w.heap.size, 21, none⟩ = some (.slice xa xn xc) := S2.box.at_ 21 _ rfl
  have HA := S2.drew.at_ HT.out
  have HCALL := Lib.hid (cexchanges ⟨xa, xn, xc⟩ p.x W2.drew HA.xs hxn HC.out)
  clear HA
  go_region_held2 (fun w' => w'.cell? ⟨w.heap.size, 17, none⟩ = some (.int .u64 (p.mem : Int)) ∧ w'.cell? ⟨w.heap.size, 21, none⟩ = some (.slice xa xn xc)) (first | (with_reducible exact E3) | go_keep)
    (first
      | (go_at_call 33; (with_reducible refine HCALL.out.mono ?_); rintro e w3 ⟨⟨ua, un, uc⟩, rfl, ho, hb⟩; (have S3 := S2.drew.go hb); (have HO := Lib.hid (ho.mono hgl)); (have d17 : w3.cell? ⟨g, 17, none⟩ = some (.int .u64 0) := S3.row.at_ 17 _ rfl); (have f17 := S3.row.free 17); (have d21 : w3.cell? ⟨g, 21, none⟩ = some (.slice none 0 0) := S3.row.at_ 21 _ rfl); (have f21 := S3.row.free 21); (have E3 : w3.cell? ⟨w.heap.size, 17, none⟩ = some (.int .u64 (p.mem : Int)) ∧ w3.cell? ⟨w.heap.size, 21, none⟩ = some (.slice xa xn xc) := ⟨S3.box.at_ 17 _ rfl, S3.box.at_ 21 _ rfl⟩); (clear ho hb)))
  have U17 := S3.set 17 (.int .u64 (p.mem : Int)) (q' := { baseP 7 p.frm p.to with conf := p.conf, mem := p.mem }) (T2 := { data := #[] }) (sd := Vc.nil) (sg := Vc.nil) (sx := Vc.nil) rfl ⟨rfl, OwnVec.nil _ _, OwnVec.nil _ _, OwnXs.nil _ _⟩
  have SZ := U17.set 21 (.slice ua un uc) (q' := { baseP 7 p.frm p.to with conf := p.conf, mem := p.mem, x := p.x }) (T2 := { data := #[] }) (sd := Vc.nil) (sg := Vc.nil) (sx := ⟨ua, un, uc⟩) rfl ⟨rfl, OwnVec.nil _ _, OwnVec.nil _ _, HO.out.set hg1 17 _⟩
  have HE : Hid (cleanP p = { baseP 7 p.frm p.to with conf := p.conf, mem := p.mem, x := p.x }) := Lib.hid (by unfold cleanP; rw [show rowP p = [.c, .b, .l] from by unfold rowP; rw [HK.out]; rfl, HK.out]; rfl)
  go_upto_region 23 with fail
  go_wp2_with (first | (refine load_packet rfl (.tmp 3) rfl g rfl SZ.row ?_) | (refine store_packet rfl (.tmp 2) (.tmp 99) rfl (w.heap.size + 1) rfl rfl SZ.res ?_))
  (try simp only [Exit.inBlock, Exit.then])
  refine bodyPost_ret (results_packet rfl _ _ (w.heap.size + 1) rfl (SZ.res.row _)) rfl ?_
  exact SZ.done HE.out
end Go.Proofs.Ytgkddjapcdjalaa

/- Cleaning a packet: kind 8. (Written by wip/gen_clean.py.) -/
set_option linter.unusedVariables false
set_option linter.unusedSimpArgs false
namespace Go.Proofs.Ytgkddjapcdjalaa
open Go.RowKit Go.Sort

set_option maxHeartbeats 4000000 in
set_option maxRecDepth 100000 in
theorem pclean_8 (w : World) (p : Pk) (T : ByteArray) (vd vg vx : Vc) (ht : PkAt w p T vd vg vx) (hsm : Small p) (hk : p.kind = 8) :
    Calls Try.prog 13 #[.agg (encP p T vd vg vx).toArray] w (ClPost w p) := by
  obtain ⟨da, dn, dc⟩ := vd
  obtain ⟨ga, gn, gc⟩ := vg
  obtain ⟨xa, xn, xc⟩ := vx
  have S0 := CSt.new (w := w) p T ⟨da, dn, dc⟩ ⟨ga, gn, gc⟩ ⟨xa, xn, xc⟩ 8 p.frm p.to
  have hd : dn ≤ 1048576 := by have := ht.deps.len; simp only at this; rw [← this]; exact hsm.deps
  have hgn : gn ≤ 1048576 := by have := ht.got.len; simp only at this; rw [← this]; exact hsm.got
  have hxn : xn ≤ 1048576 := by have := ht.xs.len; simp only at this; rw [← this]; exact hsm.xs
  have hT : T.size ≤ 1048576 := by rw [size_text ht.text]; exact hsm.text
  have HC : Hid (∀ x ∈ p.x, x.cnt.length ≤ 1048576) := Lib.hid hsm.cnt
  have HT := Lib.hid ht
  clear ht hsm
  obtain ⟨B1, hB1⟩ : ∃ B1, B1 = (w.alloc (.cells (encP p T ⟨da, dn, dc⟩ ⟨ga, gn, gc⟩ ⟨xa, xn, xc⟩).toArray 35)).alloc (.cells (encP zeroP { data := #[] } Vc.nil Vc.nil Vc.nil).toArray 35) := ⟨_, rfl⟩
  have hz : B1.heap.size = w.heap.size + 2 := by rw [hB1]; simp
  have G1 : Grw (w.alloc (.cells (encP p T ⟨da, dn, dc⟩ ⟨ga, gn, gc⟩ ⟨xa, xn, xc⟩).toArray 35)) B1 := by rw [hB1]; exact (Grw.refl _).alloc _
  have OB := (Own.new w 35 (encP p T ⟨da, dn, dc⟩ ⟨ga, gn, gc⟩ ⟨xa, xn, xc⟩).toArray).below G1.below (by simp)
  rw [← hB1] at S0
  have c0 : B1.cell? ⟨w.heap.size, 0, none⟩ = some (.int .i64 8) := by rw [← hk]; exact OB.at_ 0 _ rfl
  have c1 : B1.cell? ⟨w.heap.size, 1, none⟩ = some (.int .i64 p.frm) := OB.at_ 1 _ rfl
  have c2 : B1.cell? ⟨w.heap.size, 2, none⟩ = some (.int .i64 p.to) := OB.at_ 2 _ rfl
  have ON := Own.new B1 35 (encP zeroP { data := #[] } Vc.nil Vc.nil Vc.nil).toArray
  rw [hz] at ON
  have HK := Lib.hid hk
  have HB := Lib.hid hB1
  have HS := Lib.hid S0
  clear hk hB1 S0 G1 OB
  rw [show (encP p T ⟨da, dn, dc⟩ ⟨ga, gn, gc⟩ ⟨xa, xn, xc⟩).toArray = #[.int .i64 p.kind, .int .i64 p.frm, .int .i64 p.to, .int .u64 (p.conf.e : Int), .int .i64 p.conf.r, .int .i64 p.m.f, .int .u32 (p.m.q : Int), .int .u64 (p.m.s : Int), .int .i64 p.m.v, .slice da dn dc, .string T, .int .u64 (p.stamp : Int), .int .u32 (p.sent : Int), .slice ga gn gc, .int .u64 (p.hor : Int), .int .i64 p.whom, .int .u32 (p.seq : Int), .int .u64 (p.mem : Int), .int .u64 (p.prom.e : Int), .int .i64 p.prom.r, .int .u64 (p.epoch : Int), .slice xa xn xc] from rfl]
  go_enter Try.func13, Try.ntmps13
  go_upto_region 1 with fail
  rw [show ((w.alloc (.cells #[.int .i64 p.kind, .int .i64 p.frm, .int .i64 p.to, .int .u64 (p.conf.e : Int), .int .i64 p.conf.r, .int .i64 p.m.f, .int .u32 (p.m.q : Int), .int .u64 (p.m.s : Int), .int .i64 p.m.v, .slice da dn dc, .string T, .int .u64 (p.stamp : Int), .int .u32 (p.sent : Int), .slice ga gn gc, .int .u64 (p.hor : Int), .int .i64 p.whom, .int .u32 (p.seq : Int), .int .u64 (p.mem : Int), .int .u64 (p.prom.e : Int), .int .i64 p.prom.r, .int .u64 (p.epoch : Int), .slice xa xn xc] 35)).alloc (.cells #[.int .i64 0, .int .i64 0, .int .i64 0, .int .u64 0, .int .i64 0, .int .i64 0, .int .u32 0, .int .u64 0, .int .i64 0, .slice none 0 0, .string { data := #[] }, .int .u64 0, .int .u32 0, .slice none 0 0, .int .u64 0, .int .i64 0, .int .u32 0, .int .u64 0, .int .u64 0, .int .i64 0, .int .u64 0, .slice none 0 0] 35)) = B1 from HB.out.symm]
  go_upto_region 2 with (refine store_packet (p := baseP 8 p.frm p.to) (T := { data := #[] }) (vd := Vc.nil) (vg := Vc.nil) (vx := Vc.nil) rfl (.tmp 3) (.tmp 10) rfl (w.heap.size + 2) rfl rfl ON ?_)
  have S1 := HS.out
  clear HS c0 c1 c2 ON
  generalize hW1 : ((B1.alloc (.cells (encP zeroP { data := #[] } Vc.nil Vc.nil Vc.nil).toArray 35)).setRow (w.heap.size + 2) (encP (baseP 8 p.frm p.to) { data := #[] } Vc.nil Vc.nil Vc.nil).toArray) = W1 at S1
  rw [show ((B1.alloc (.cells #[.int .i64 0, .int .i64 0, .int .i64 0, .int .u64 0, .int .i64 0, .int .i64 0, .int .u32 0, .int .u64 0, .int .i64 0, .slice none 0 0, .string { data := #[] }, .int .u64 0, .int .u32 0, .slice none 0 0, .int .u64 0, .int .i64 0, .int .u32 0, .int .u64 0, .int .u64 0, .int .i64 0, .int .u64 0, .slice none 0 0] 35)).setRow (w.heap.size + 2) (encP (baseP 8 p.frm p.to) { data := #[] } Vc.nil Vc.nil Vc.nil).toArray) = W1 from hW1]
  clear hW1 HB hz
  obtain ⟨g, hg⟩ : ∃ g, g = w.heap.size + 2 := ⟨_, rfl⟩
  rw [← hg] at S1
  rw [← hg]
  have hne : g ≠ w.heap.size := by omega
  have hne2 : w.heap.size ≠ g := by omega
  clear hg B1
  have c0 : W1.cell? ⟨w.heap.size, 0, none⟩ = some (.int .i64 8) := by rw [← HK.out]; exact S1.box.at_ 0 _ rfl
  have c3 : W1.cell? ⟨w.heap.size, 3, none⟩ = some (.int .u64 (p.conf.e : Int)) := S1.box.at_ 3 _ rfl
  have c4 : W1.cell? ⟨w.heap.size, 4, none⟩ = some (.int .i64 p.conf.r) := S1.box.at_ 4 _ rfl
  have d3 : W1.cell? ⟨g, 3, none⟩ = some (.int .u64 0) := S1.row.at_ 3 _ rfl
  have f3 := S1.row.free 3
  have d4 : W1.cell? ⟨g, 4, none⟩ = some (.int .i64 0) := S1.row.at_ 4 _ rfl
  have f4 := S1.row.free 4
  go_upto_region 5 with fail
  have S2 := (S1.set 3 (.int .u64 (p.conf.e : Int)) (q' := { baseP 8 p.frm p.to with conf := ⟨p.conf.e, 0⟩ }) (T2 := { data := #[] }) (sd := Vc.nil) (sg := Vc.nil) (sx := Vc.nil) rfl ⟨rfl, OwnVec.nil _ _, OwnVec.nil _ _, OwnXs.nil _ _⟩).set 4 (.int .i64 p.conf.r) (q' := { baseP 8 p.frm p.to with conf := p.conf }) (T2 := { data := #[] }) (sd := Vc.nil) (sg := Vc.nil) (sx := Vc.nil) rfl ⟨rfl, OwnVec.nil _ _, OwnVec.nil _ _, OwnXs.nil _ _⟩
  generalize ((W1.setCell ⟨g, 3, none⟩ (.int .u64 (p.conf.e : Int))).setCell ⟨g, 4, none⟩ (.int .i64 p.conf.r)) = W2 at *
  clear S1 c0 c3 c4 d3 d4 f3 f4
  have c0 : W2.cell? ⟨w.heap.size, 0, none⟩ = some (.int .i64 8) := by rw [← HK.out]; exact S2.box.at_ 0 _ rfl
  go_upto_region 12 with fail
  have hgl : g + 1 ≤ W2.drew.heap.size := S2.row.lt
  have hg1 : g < g + 1 := Nat.lt_succ_self _
  have c15 : W2.cell? ⟨w.heap.size, 15, none⟩ = some (.int .i64 p.whom) := S2.box.at_ 15 _ rfl
  have c16 : W2.cell? ⟨w.heap.size, 16, none⟩ = some (.int .u32 (p.seq : Int)) := S2.box.at_ 16 _ rfl
  have d15 : W2.cell? ⟨g, 15, none⟩ = some (.int .i64 0) := S2.row.at_ 15 _ rfl
  have f15 := S2.row.free 15
  have d16 : W2.cell? ⟨g, 16, none⟩ = some (.int .u32 0) := S2.row.at_ 16 _ rfl
  have f16 := S2.row.free 16
  clear c0
  go_region
  have U15 := S2.set 15 (.int .i64 p.whom) (q' := { baseP 8 p.frm p.to with conf := p.conf, whom := p.whom }) (T2 := { data := #[] }) (sd := Vc.nil) (sg := Vc.nil) (sx := Vc.nil) rfl ⟨rfl, OwnVec.nil _ _, OwnVec.nil _ _, OwnXs.nil _ _⟩
  have U16 := U15.set 16 (.int .u32 (p.seq : Int)) (q' := { baseP 8 p.frm p.to with conf := p.conf, whom := p.whom, seq := p.seq }) (T2 := { data := #[] }) (sd := Vc.nil) (sg := Vc.nil) (sx := Vc.nil) rfl ⟨rfl, OwnVec.nil _ _, OwnVec.nil _ _, OwnXs.nil _ _⟩
  have SZ := U16.drew
  have HE : Hid (cleanP p = { baseP 8 p.frm p.to with conf := p.conf, whom := p.whom, seq := p.seq }) := Lib.hid (by unfold cleanP; rw [show rowP p = [.c, .w, .q] from by unfold rowP; rw [HK.out]; rfl, HK.out]; rfl)
  go_upto_region 23 with fail
  go_wp2_with (first | (refine load_packet rfl (.tmp 3) rfl g rfl SZ.row ?_) | (refine store_packet rfl (.tmp 2) (.tmp 99) rfl (w.heap.size + 1) rfl rfl SZ.res ?_))
  (try simp only [Exit.inBlock, Exit.then])
  refine bodyPost_ret (results_packet rfl _ _ (w.heap.size + 1) rfl (SZ.res.row _)) rfl ?_
  exact SZ.done HE.out
end Go.Proofs.Ytgkddjapcdjalaa

/- Cleaning a packet: kind 9. (Written by wip/gen_clean.py.) -/
set_option linter.unusedVariables false
set_option linter.unusedSimpArgs false
namespace Go.Proofs.Ytgkddjapcdjalaa
open Go.RowKit Go.Sort

set_option maxHeartbeats 4000000 in
set_option maxRecDepth 100000 in
theorem pclean_9 (w : World) (p : Pk) (T : ByteArray) (vd vg vx : Vc) (ht : PkAt w p T vd vg vx) (hsm : Small p) (hk : p.kind = 9) :
    Calls Try.prog 13 #[.agg (encP p T vd vg vx).toArray] w (ClPost w p) := by
  obtain ⟨da, dn, dc⟩ := vd
  obtain ⟨ga, gn, gc⟩ := vg
  obtain ⟨xa, xn, xc⟩ := vx
  have S0 := CSt.new (w := w) p T ⟨da, dn, dc⟩ ⟨ga, gn, gc⟩ ⟨xa, xn, xc⟩ 9 p.frm p.to
  have hd : dn ≤ 1048576 := by have := ht.deps.len; simp only at this; rw [← this]; exact hsm.deps
  have hgn : gn ≤ 1048576 := by have := ht.got.len; simp only at this; rw [← this]; exact hsm.got
  have hxn : xn ≤ 1048576 := by have := ht.xs.len; simp only at this; rw [← this]; exact hsm.xs
  have hT : T.size ≤ 1048576 := by rw [size_text ht.text]; exact hsm.text
  have HC : Hid (∀ x ∈ p.x, x.cnt.length ≤ 1048576) := Lib.hid hsm.cnt
  have HT := Lib.hid ht
  clear ht hsm
  obtain ⟨B1, hB1⟩ : ∃ B1, B1 = (w.alloc (.cells (encP p T ⟨da, dn, dc⟩ ⟨ga, gn, gc⟩ ⟨xa, xn, xc⟩).toArray 35)).alloc (.cells (encP zeroP { data := #[] } Vc.nil Vc.nil Vc.nil).toArray 35) := ⟨_, rfl⟩
  have hz : B1.heap.size = w.heap.size + 2 := by rw [hB1]; simp
  have G1 : Grw (w.alloc (.cells (encP p T ⟨da, dn, dc⟩ ⟨ga, gn, gc⟩ ⟨xa, xn, xc⟩).toArray 35)) B1 := by rw [hB1]; exact (Grw.refl _).alloc _
  have OB := (Own.new w 35 (encP p T ⟨da, dn, dc⟩ ⟨ga, gn, gc⟩ ⟨xa, xn, xc⟩).toArray).below G1.below (by simp)
  rw [← hB1] at S0
  have c0 : B1.cell? ⟨w.heap.size, 0, none⟩ = some (.int .i64 9) := by rw [← hk]; exact OB.at_ 0 _ rfl
  have c1 : B1.cell? ⟨w.heap.size, 1, none⟩ = some (.int .i64 p.frm) := OB.at_ 1 _ rfl
  have c2 : B1.cell? ⟨w.heap.size, 2, none⟩ = some (.int .i64 p.to) := OB.at_ 2 _ rfl
  have ON := Own.new B1 35 (encP zeroP { data := #[] } Vc.nil Vc.nil Vc.nil).toArray
  rw [hz] at ON
  have HK := Lib.hid hk
  have HB := Lib.hid hB1
  have HS := Lib.hid S0
  clear hk hB1 S0 G1 OB
  rw [show (encP p T ⟨da, dn, dc⟩ ⟨ga, gn, gc⟩ ⟨xa, xn, xc⟩).toArray = #[.int .i64 p.kind, .int .i64 p.frm, .int .i64 p.to, .int .u64 (p.conf.e : Int), .int .i64 p.conf.r, .int .i64 p.m.f, .int .u32 (p.m.q : Int), .int .u64 (p.m.s : Int), .int .i64 p.m.v, .slice da dn dc, .string T, .int .u64 (p.stamp : Int), .int .u32 (p.sent : Int), .slice ga gn gc, .int .u64 (p.hor : Int), .int .i64 p.whom, .int .u32 (p.seq : Int), .int .u64 (p.mem : Int), .int .u64 (p.prom.e : Int), .int .i64 p.prom.r, .int .u64 (p.epoch : Int), .slice xa xn xc] from rfl]
  go_enter Try.func13, Try.ntmps13
  go_upto_region 1 with fail
  rw [show ((w.alloc (.cells #[.int .i64 p.kind, .int .i64 p.frm, .int .i64 p.to, .int .u64 (p.conf.e : Int), .int .i64 p.conf.r, .int .i64 p.m.f, .int .u32 (p.m.q : Int), .int .u64 (p.m.s : Int), .int .i64 p.m.v, .slice da dn dc, .string T, .int .u64 (p.stamp : Int), .int .u32 (p.sent : Int), .slice ga gn gc, .int .u64 (p.hor : Int), .int .i64 p.whom, .int .u32 (p.seq : Int), .int .u64 (p.mem : Int), .int .u64 (p.prom.e : Int), .int .i64 p.prom.r, .int .u64 (p.epoch : Int), .slice xa xn xc] 35)).alloc (.cells #[.int .i64 0, .int .i64 0, .int .i64 0, .int .u64 0, .int .i64 0, .int .i64 0, .int .u32 0, .int .u64 0, .int .i64 0, .slice none 0 0, .string { data := #[] }, .int .u64 0, .int .u32 0, .slice none 0 0, .int .u64 0, .int .i64 0, .int .u32 0, .int .u64 0, .int .u64 0, .int .i64 0, .int .u64 0, .slice none 0 0] 35)) = B1 from HB.out.symm]
  go_upto_region 2 with (refine store_packet (p := baseP 9 p.frm p.to) (T := { data := #[] }) (vd := Vc.nil) (vg := Vc.nil) (vx := Vc.nil) rfl (.tmp 3) (.tmp 10) rfl (w.heap.size + 2) rfl rfl ON ?_)
  have S1 := HS.out
  clear HS c0 c1 c2 ON
  generalize hW1 : ((B1.alloc (.cells (encP zeroP { data := #[] } Vc.nil Vc.nil Vc.nil).toArray 35)).setRow (w.heap.size + 2) (encP (baseP 9 p.frm p.to) { data := #[] } Vc.nil Vc.nil Vc.nil).toArray) = W1 at S1
  rw [show ((B1.alloc (.cells #[.int .i64 0, .int .i64 0, .int .i64 0, .int .u64 0, .int .i64 0, .int .i64 0, .int .u32 0, .int .u64 0, .int .i64 0, .slice none 0 0, .string { data := #[] }, .int .u64 0, .int .u32 0, .slice none 0 0, .int .u64 0, .int .i64 0, .int .u32 0, .int .u64 0, .int .u64 0, .int .i64 0, .int .u64 0, .slice none 0 0] 35)).setRow (w.heap.size + 2) (encP (baseP 9 p.frm p.to) { data := #[] } Vc.nil Vc.nil Vc.nil).toArray) = W1 from hW1]
  clear hW1 HB hz
  obtain ⟨g, hg⟩ : ∃ g, g = w.heap.size + 2 := ⟨_, rfl⟩
  rw [← hg] at S1
  rw [← hg]
  have hne : g ≠ w.heap.size := by omega
  have hne2 : w.heap.size ≠ g := by omega
  clear hg B1
  have c0 : W1.cell? ⟨w.heap.size, 0, none⟩ = some (.int .i64 9) := by rw [← HK.out]; exact S1.box.at_ 0 _ rfl
  have c3 : W1.cell? ⟨w.heap.size, 3, none⟩ = some (.int .u64 (p.conf.e : Int)) := S1.box.at_ 3 _ rfl
  have c4 : W1.cell? ⟨w.heap.size, 4, none⟩ = some (.int .i64 p.conf.r) := S1.box.at_ 4 _ rfl
  have d3 : W1.cell? ⟨g, 3, none⟩ = some (.int .u64 0) := S1.row.at_ 3 _ rfl
  have f3 := S1.row.free 3
  have d4 : W1.cell? ⟨g, 4, none⟩ = some (.int .i64 0) := S1.row.at_ 4 _ rfl
  have f4 := S1.row.free 4
  go_upto_region 5 with fail
  have S2 := (S1.set 3 (.int .u64 (p.conf.e : Int)) (q' := { baseP 9 p.frm p.to with conf := ⟨p.conf.e, 0⟩ }) (T2 := { data := #[] }) (sd := Vc.nil) (sg := Vc.nil) (sx := Vc.nil) rfl ⟨rfl, OwnVec.nil _ _, OwnVec.nil _ _, OwnXs.nil _ _⟩).set 4 (.int .i64 p.conf.r) (q' := { baseP 9 p.frm p.to with conf := p.conf }) (T2 := { data := #[] }) (sd := Vc.nil) (sg := Vc.nil) (sx := Vc.nil) rfl ⟨rfl, OwnVec.nil _ _, OwnVec.nil _ _, OwnXs.nil _ _⟩
  generalize ((W1.setCell ⟨g, 3, none⟩ (.int .u64 (p.conf.e : Int))).setCell ⟨g, 4, none⟩ (.int .i64 p.conf.r)) = W2 at *
  clear S1 c0 c3 c4 d3 d4 f3 f4
  have c0 : W2.cell? ⟨w.heap.size, 0, none⟩ = some (.int .i64 9) := by rw [← HK.out]; exact S2.box.at_ 0 _ rfl
  go_upto_region 22 with fail
  have hgl : g + 1 ≤ W2.drew.heap.size := S2.row.lt
  have hg1 : g < g + 1 := Nat.lt_succ_self _
  have c5 : W2.cell? ⟨w.heap.size, 5, none⟩ = some (.int .i64 p.m.f) := S2.box.at_ 5 _ rfl
  have c6 : W2.cell? ⟨w.heap.size, 6, none⟩ = some (.int .u32 (p.m.q : Int)) := S2.box.at_ 6 _ rfl
  have c7 : W2.cell? ⟨w.heap.size, 7, none⟩ = some (.int .u64 (p.m.s : Int)) := S2.box.at_ 7 _ rfl
  have c8 : W2.cell? ⟨w.heap.size, 8, none⟩ = some (.int .i64 p.m.v) := S2.box.at_ 8 _ rfl
  have c9 : W2.cell? ⟨w.heap.size, 9, none⟩ = some (.slice da dn dc) := S2.box.at_ 9 _ rfl
  have c10 : W2.cell? ⟨w.heap.size, 10, none⟩ = some (.string T) := S2.box.at_ 10 _ rfl
  have c15 : W2.cell? ⟨w.heap.size, 15, none⟩ = some (.int .i64 p.whom) := S2.box.at_ 15 _ rfl
  have HA := S2.drew.at_ HT.out
  have HCALL := Lib.hid (cmessage W2.drew p.m.f p.m.q p.m.s p.m.v p.whom ⟨da, dn, dc⟩ T p.m.deps HA.deps hd hT)
  clear HA
  go_region_held2 (fun w' => w'.cell? ⟨w.heap.size, 15, none⟩ = some (.int .i64 p.whom) ∧ w'.cell? ⟨w.heap.size, 5, none⟩ = some (.int .i64 p.m.f) ∧ w'.cell? ⟨w.heap.size, 6, none⟩ = some (.int .u32 (p.m.q : Int)) ∧ w'.cell? ⟨w.heap.size, 7, none⟩ = some (.int .u64 (p.m.s : Int)) ∧ w'.cell? ⟨w.heap.size, 8, none⟩ = some (.int .i64 p.m.v) ∧ w'.cell? ⟨w.heap.size, 9, none⟩ = some (.slice da dn dc) ∧ w'.cell? ⟨w.heap.size, 10, none⟩ = some (.string T)) (first | (with_reducible exact E3) | go_keep)
    (first
      | (go_at_call 31; (with_reducible refine HCALL.out.mono ?_); rintro e w3 ⟨⟨ua, un, uc⟩, rfl, ho, hb⟩; (have S3 := S2.drew.go hb); (have HO := Lib.hid (ho.mono hgl)); (have d15 : w3.cell? ⟨g, 15, none⟩ = some (.int .i64 0) := S3.row.at_ 15 _ rfl); (have f15 := S3.row.free 15); (have d5 : w3.cell? ⟨g, 5, none⟩ = some (.int .i64 0) := S3.row.at_ 5 _ rfl); (have f5 := S3.row.free 5); (have d6 : w3.cell? ⟨g, 6, none⟩ = some (.int .u32 0) := S3.row.at_ 6 _ rfl); (have f6 := S3.row.free 6); (have d7 : w3.cell? ⟨g, 7, none⟩ = some (.int .u64 0) := S3.row.at_ 7 _ rfl); (have f7 := S3.row.free 7); (have d8 : w3.cell? ⟨g, 8, none⟩ = some (.int .i64 0) := S3.row.at_ 8 _ rfl); (have f8 := S3.row.free 8); (have d9 : w3.cell? ⟨g, 9, none⟩ = some (.slice none 0 0) := S3.row.at_ 9 _ rfl); (have f9 := S3.row.free 9); (have d10 : w3.cell? ⟨g, 10, none⟩ = some (.string { data := #[] }) := S3.row.at_ 10 _ rfl); (have f10 := S3.row.free 10); (have E3 : w3.cell? ⟨w.heap.size, 15, none⟩ = some (.int .i64 p.whom) ∧ w3.cell? ⟨w.heap.size, 5, none⟩ = some (.int .i64 p.m.f) ∧ w3.cell? ⟨w.heap.size, 6, none⟩ = some (.int .u32 (p.m.q : Int)) ∧ w3.cell? ⟨w.heap.size, 7, none⟩ = some (.int .u64 (p.m.s : Int)) ∧ w3.cell? ⟨w.heap.size, 8, none⟩ = some (.int .i64 p.m.v) ∧ w3.cell? ⟨w.heap.size, 9, none⟩ = some (.slice da dn dc) ∧ w3.cell? ⟨w.heap.size, 10, none⟩ = some (.string T) := ⟨S3.box.at_ 15 _ rfl, S3.box.at_ 5 _ rfl, S3.box.at_ 6 _ rfl, S3.box.at_ 7 _ rfl, S3.box.at_ 8 _ rfl, S3.box.at_ 9 _ rfl, S3.box.at_ 10 _ rfl⟩); (clear ho hb)))
  have U15 := S3.set 15 (.int .i64 p.whom) (q' := { baseP 9 p.frm p.to with conf := p.conf, whom := p.whom }) (T2 := { data := #[] }) (sd := Vc.nil) (sg := Vc.nil) (sx := Vc.nil) rfl ⟨rfl, OwnVec.nil _ _, OwnVec.nil _ _, OwnXs.nil _ _⟩
  have SZ := U15.setM { p.m with f := p.whom } (T2 := T) (v := ⟨ua, un, uc⟩) HT.out.text (HO.out.set hg1 15 _)
  have HE : Hid (cleanP p = { baseP 9 p.frm p.to with conf := p.conf, whom := p.whom, m := { p.m with f := p.whom } }) := Lib.hid (by unfold cleanP; rw [show rowP p = [.c, .w, .m] from by unfold rowP; rw [HK.out]; rfl, HK.out]; rfl)
  go_upto_region 23 with fail
  go_wp2_with (first | (refine load_packet rfl (.tmp 3) rfl g rfl SZ.row ?_) | (refine store_packet rfl (.tmp 2) (.tmp 99) rfl (w.heap.size + 1) rfl rfl SZ.res ?_))
  (try simp only [Exit.inBlock, Exit.then])
  refine bodyPost_ret (results_packet rfl _ _ (w.heap.size + 1) rfl (SZ.res.row _)) rfl ?_
  exact SZ.done HE.out
end Go.Proofs.Ytgkddjapcdjalaa

/- Cleaning a packet: kind 10. (Written by wip/gen_clean.py.) -/
set_option linter.unusedVariables false
set_option linter.unusedSimpArgs false
namespace Go.Proofs.Ytgkddjapcdjalaa
open Go.RowKit Go.Sort

set_option maxHeartbeats 4000000 in
set_option maxRecDepth 100000 in
theorem pclean_10 (w : World) (p : Pk) (T : ByteArray) (vd vg vx : Vc) (ht : PkAt w p T vd vg vx) (hsm : Small p) (hk : p.kind = 10) :
    Calls Try.prog 13 #[.agg (encP p T vd vg vx).toArray] w (ClPost w p) := by
  obtain ⟨da, dn, dc⟩ := vd
  obtain ⟨ga, gn, gc⟩ := vg
  obtain ⟨xa, xn, xc⟩ := vx
  have S0 := CSt.new (w := w) p T ⟨da, dn, dc⟩ ⟨ga, gn, gc⟩ ⟨xa, xn, xc⟩ 10 p.frm p.to
  have hd : dn ≤ 1048576 := by have := ht.deps.len; simp only at this; rw [← this]; exact hsm.deps
  have hgn : gn ≤ 1048576 := by have := ht.got.len; simp only at this; rw [← this]; exact hsm.got
  have hxn : xn ≤ 1048576 := by have := ht.xs.len; simp only at this; rw [← this]; exact hsm.xs
  have hT : T.size ≤ 1048576 := by rw [size_text ht.text]; exact hsm.text
  have HC : Hid (∀ x ∈ p.x, x.cnt.length ≤ 1048576) := Lib.hid hsm.cnt
  have HT := Lib.hid ht
  clear ht hsm
  obtain ⟨B1, hB1⟩ : ∃ B1, B1 = (w.alloc (.cells (encP p T ⟨da, dn, dc⟩ ⟨ga, gn, gc⟩ ⟨xa, xn, xc⟩).toArray 35)).alloc (.cells (encP zeroP { data := #[] } Vc.nil Vc.nil Vc.nil).toArray 35) := ⟨_, rfl⟩
  have hz : B1.heap.size = w.heap.size + 2 := by rw [hB1]; simp
  have G1 : Grw (w.alloc (.cells (encP p T ⟨da, dn, dc⟩ ⟨ga, gn, gc⟩ ⟨xa, xn, xc⟩).toArray 35)) B1 := by rw [hB1]; exact (Grw.refl _).alloc _
  have OB := (Own.new w 35 (encP p T ⟨da, dn, dc⟩ ⟨ga, gn, gc⟩ ⟨xa, xn, xc⟩).toArray).below G1.below (by simp)
  rw [← hB1] at S0
  have c0 : B1.cell? ⟨w.heap.size, 0, none⟩ = some (.int .i64 10) := by rw [← hk]; exact OB.at_ 0 _ rfl
  have c1 : B1.cell? ⟨w.heap.size, 1, none⟩ = some (.int .i64 p.frm) := OB.at_ 1 _ rfl
  have c2 : B1.cell? ⟨w.heap.size, 2, none⟩ = some (.int .i64 p.to) := OB.at_ 2 _ rfl
  have ON := Own.new B1 35 (encP zeroP { data := #[] } Vc.nil Vc.nil Vc.nil).toArray
  rw [hz] at ON
  have HK := Lib.hid hk
  have HB := Lib.hid hB1
  have HS := Lib.hid S0
  clear hk hB1 S0 G1 OB
  rw [show (encP p T ⟨da, dn, dc⟩ ⟨ga, gn, gc⟩ ⟨xa, xn, xc⟩).toArray = #[.int .i64 p.kind, .int .i64 p.frm, .int .i64 p.to, .int .u64 (p.conf.e : Int), .int .i64 p.conf.r, .int .i64 p.m.f, .int .u32 (p.m.q : Int), .int .u64 (p.m.s : Int), .int .i64 p.m.v, .slice da dn dc, .string T, .int .u64 (p.stamp : Int), .int .u32 (p.sent : Int), .slice ga gn gc, .int .u64 (p.hor : Int), .int .i64 p.whom, .int .u32 (p.seq : Int), .int .u64 (p.mem : Int), .int .u64 (p.prom.e : Int), .int .i64 p.prom.r, .int .u64 (p.epoch : Int), .slice xa xn xc] from rfl]
  go_enter Try.func13, Try.ntmps13
  go_upto_region 1 with fail
  rw [show ((w.alloc (.cells #[.int .i64 p.kind, .int .i64 p.frm, .int .i64 p.to, .int .u64 (p.conf.e : Int), .int .i64 p.conf.r, .int .i64 p.m.f, .int .u32 (p.m.q : Int), .int .u64 (p.m.s : Int), .int .i64 p.m.v, .slice da dn dc, .string T, .int .u64 (p.stamp : Int), .int .u32 (p.sent : Int), .slice ga gn gc, .int .u64 (p.hor : Int), .int .i64 p.whom, .int .u32 (p.seq : Int), .int .u64 (p.mem : Int), .int .u64 (p.prom.e : Int), .int .i64 p.prom.r, .int .u64 (p.epoch : Int), .slice xa xn xc] 35)).alloc (.cells #[.int .i64 0, .int .i64 0, .int .i64 0, .int .u64 0, .int .i64 0, .int .i64 0, .int .u32 0, .int .u64 0, .int .i64 0, .slice none 0 0, .string { data := #[] }, .int .u64 0, .int .u32 0, .slice none 0 0, .int .u64 0, .int .i64 0, .int .u32 0, .int .u64 0, .int .u64 0, .int .i64 0, .int .u64 0, .slice none 0 0] 35)) = B1 from HB.out.symm]
  go_upto_region 2 with (refine store_packet (p := baseP 10 p.frm p.to) (T := { data := #[] }) (vd := Vc.nil) (vg := Vc.nil) (vx := Vc.nil) rfl (.tmp 3) (.tmp 10) rfl (w.heap.size + 2) rfl rfl ON ?_)
  have S1 := HS.out
  clear HS c0 c1 c2 ON
  generalize hW1 : ((B1.alloc (.cells (encP zeroP { data := #[] } Vc.nil Vc.nil Vc.nil).toArray 35)).setRow (w.heap.size + 2) (encP (baseP 10 p.frm p.to) { data := #[] } Vc.nil Vc.nil Vc.nil).toArray) = W1 at S1
  rw [show ((B1.alloc (.cells #[.int .i64 0, .int .i64 0, .int .i64 0, .int .u64 0, .int .i64 0, .int .i64 0, .int .u32 0, .int .u64 0, .int .i64 0, .slice none 0 0, .string { data := #[] }, .int .u64 0, .int .u32 0, .slice none 0 0, .int .u64 0, .int .i64 0, .int .u32 0, .int .u64 0, .int .u64 0, .int .i64 0, .int .u64 0, .slice none 0 0] 35)).setRow (w.heap.size + 2) (encP (baseP 10 p.frm p.to) { data := #[] } Vc.nil Vc.nil Vc.nil).toArray) = W1 from hW1]
  clear hW1 HB hz
  obtain ⟨g, hg⟩ : ∃ g, g = w.heap.size + 2 := ⟨_, rfl⟩
  rw [← hg] at S1
  rw [← hg]
  have hne : g ≠ w.heap.size := by omega
  have hne2 : w.heap.size ≠ g := by omega
  clear hg B1
  have c0 : W1.cell? ⟨w.heap.size, 0, none⟩ = some (.int .i64 10) := by rw [← HK.out]; exact S1.box.at_ 0 _ rfl
  have c3 : W1.cell? ⟨w.heap.size, 3, none⟩ = some (.int .u64 (p.conf.e : Int)) := S1.box.at_ 3 _ rfl
  have c4 : W1.cell? ⟨w.heap.size, 4, none⟩ = some (.int .i64 p.conf.r) := S1.box.at_ 4 _ rfl
  have d3 : W1.cell? ⟨g, 3, none⟩ = some (.int .u64 0) := S1.row.at_ 3 _ rfl
  have f3 := S1.row.free 3
  have d4 : W1.cell? ⟨g, 4, none⟩ = some (.int .i64 0) := S1.row.at_ 4 _ rfl
  have f4 := S1.row.free 4
  go_upto_region 5 with fail
  have S2 := (S1.set 3 (.int .u64 (p.conf.e : Int)) (q' := { baseP 10 p.frm p.to with conf := ⟨p.conf.e, 0⟩ }) (T2 := { data := #[] }) (sd := Vc.nil) (sg := Vc.nil) (sx := Vc.nil) rfl ⟨rfl, OwnVec.nil _ _, OwnVec.nil _ _, OwnXs.nil _ _⟩).set 4 (.int .i64 p.conf.r) (q' := { baseP 10 p.frm p.to with conf := p.conf }) (T2 := { data := #[] }) (sd := Vc.nil) (sg := Vc.nil) (sx := Vc.nil) rfl ⟨rfl, OwnVec.nil _ _, OwnVec.nil _ _, OwnXs.nil _ _⟩
  generalize ((W1.setCell ⟨g, 3, none⟩ (.int .u64 (p.conf.e : Int))).setCell ⟨g, 4, none⟩ (.int .i64 p.conf.r)) = W2 at *
  clear S1 c0 c3 c4 d3 d4 f3 f4
  have c0 : W2.cell? ⟨w.heap.size, 0, none⟩ = some (.int .i64 10) := by rw [← HK.out]; exact S2.box.at_ 0 _ rfl
  have HE : Hid (cleanP p = { baseP 10 p.frm p.to with conf := p.conf }) := Lib.hid (by unfold cleanP; rw [show rowP p = [.c] from by unfold rowP; rw [HK.out]; rfl, HK.out]; rfl)
  go_upto_region 23 with fail
  go_wp2_with (first | (refine load_packet rfl (.tmp 3) rfl g rfl S2.row ?_) | (refine store_packet rfl (.tmp 2) (.tmp 99) rfl (w.heap.size + 1) rfl rfl S2.res ?_))
  (try simp only [Exit.inBlock, Exit.then])
  refine bodyPost_ret (results_packet rfl _ _ (w.heap.size + 1) rfl (S2.res.row _)) rfl ?_
  exact S2.done HE.out
end Go.Proofs.Ytgkddjapcdjalaa

/- Cleaning a packet: kind 11. (Written by wip/gen_clean.py.) -/
set_option linter.unusedVariables false
set_option linter.unusedSimpArgs false
namespace Go.Proofs.Ytgkddjapcdjalaa
open Go.RowKit Go.Sort

set_option maxHeartbeats 4000000 in
set_option maxRecDepth 100000 in
theorem pclean_11 (w : World) (p : Pk) (T : ByteArray) (vd vg vx : Vc) (ht : PkAt w p T vd vg vx) (hsm : Small p) (hk : p.kind = 11) :
    Calls Try.prog 13 #[.agg (encP p T vd vg vx).toArray] w (ClPost w p) := by
  obtain ⟨da, dn, dc⟩ := vd
  obtain ⟨ga, gn, gc⟩ := vg
  obtain ⟨xa, xn, xc⟩ := vx
  have S0 := CSt.new (w := w) p T ⟨da, dn, dc⟩ ⟨ga, gn, gc⟩ ⟨xa, xn, xc⟩ 11 p.frm p.to
  have hd : dn ≤ 1048576 := by have := ht.deps.len; simp only at this; rw [← this]; exact hsm.deps
  have hgn : gn ≤ 1048576 := by have := ht.got.len; simp only at this; rw [← this]; exact hsm.got
  have hxn : xn ≤ 1048576 := by have := ht.xs.len; simp only at this; rw [← this]; exact hsm.xs
  have hT : T.size ≤ 1048576 := by rw [size_text ht.text]; exact hsm.text
  have HC : Hid (∀ x ∈ p.x, x.cnt.length ≤ 1048576) := Lib.hid hsm.cnt
  have HT := Lib.hid ht
  clear ht hsm
  obtain ⟨B1, hB1⟩ : ∃ B1, B1 = (w.alloc (.cells (encP p T ⟨da, dn, dc⟩ ⟨ga, gn, gc⟩ ⟨xa, xn, xc⟩).toArray 35)).alloc (.cells (encP zeroP { data := #[] } Vc.nil Vc.nil Vc.nil).toArray 35) := ⟨_, rfl⟩
  have hz : B1.heap.size = w.heap.size + 2 := by rw [hB1]; simp
  have G1 : Grw (w.alloc (.cells (encP p T ⟨da, dn, dc⟩ ⟨ga, gn, gc⟩ ⟨xa, xn, xc⟩).toArray 35)) B1 := by rw [hB1]; exact (Grw.refl _).alloc _
  have OB := (Own.new w 35 (encP p T ⟨da, dn, dc⟩ ⟨ga, gn, gc⟩ ⟨xa, xn, xc⟩).toArray).below G1.below (by simp)
  rw [← hB1] at S0
  have c0 : B1.cell? ⟨w.heap.size, 0, none⟩ = some (.int .i64 11) := by rw [← hk]; exact OB.at_ 0 _ rfl
  have c1 : B1.cell? ⟨w.heap.size, 1, none⟩ = some (.int .i64 p.frm) := OB.at_ 1 _ rfl
  have c2 : B1.cell? ⟨w.heap.size, 2, none⟩ = some (.int .i64 p.to) := OB.at_ 2 _ rfl
  have ON := Own.new B1 35 (encP zeroP { data := #[] } Vc.nil Vc.nil Vc.nil).toArray
  rw [hz] at ON
  have HK := Lib.hid hk
  have HB := Lib.hid hB1
  have HS := Lib.hid S0
  clear hk hB1 S0 G1 OB
  rw [show (encP p T ⟨da, dn, dc⟩ ⟨ga, gn, gc⟩ ⟨xa, xn, xc⟩).toArray = #[.int .i64 p.kind, .int .i64 p.frm, .int .i64 p.to, .int .u64 (p.conf.e : Int), .int .i64 p.conf.r, .int .i64 p.m.f, .int .u32 (p.m.q : Int), .int .u64 (p.m.s : Int), .int .i64 p.m.v, .slice da dn dc, .string T, .int .u64 (p.stamp : Int), .int .u32 (p.sent : Int), .slice ga gn gc, .int .u64 (p.hor : Int), .int .i64 p.whom, .int .u32 (p.seq : Int), .int .u64 (p.mem : Int), .int .u64 (p.prom.e : Int), .int .i64 p.prom.r, .int .u64 (p.epoch : Int), .slice xa xn xc] from rfl]
  go_enter Try.func13, Try.ntmps13
  go_upto_region 1 with fail
  rw [show ((w.alloc (.cells #[.int .i64 p.kind, .int .i64 p.frm, .int .i64 p.to, .int .u64 (p.conf.e : Int), .int .i64 p.conf.r, .int .i64 p.m.f, .int .u32 (p.m.q : Int), .int .u64 (p.m.s : Int), .int .i64 p.m.v, .slice da dn dc, .string T, .int .u64 (p.stamp : Int), .int .u32 (p.sent : Int), .slice ga gn gc, .int .u64 (p.hor : Int), .int .i64 p.whom, .int .u32 (p.seq : Int), .int .u64 (p.mem : Int), .int .u64 (p.prom.e : Int), .int .i64 p.prom.r, .int .u64 (p.epoch : Int), .slice xa xn xc] 35)).alloc (.cells #[.int .i64 0, .int .i64 0, .int .i64 0, .int .u64 0, .int .i64 0, .int .i64 0, .int .u32 0, .int .u64 0, .int .i64 0, .slice none 0 0, .string { data := #[] }, .int .u64 0, .int .u32 0, .slice none 0 0, .int .u64 0, .int .i64 0, .int .u32 0, .int .u64 0, .int .u64 0, .int .i64 0, .int .u64 0, .slice none 0 0] 35)) = B1 from HB.out.symm]
  go_upto_region 2 with (refine store_packet (p := baseP 11 p.frm p.to) (T := { data := #[] }) (vd := Vc.nil) (vg := Vc.nil) (vx := Vc.nil) rfl (.tmp 3) (.tmp 10) rfl (w.heap.size + 2) rfl rfl ON ?_)
  have S1 := HS.out
  clear HS c0 c1 c2 ON
  generalize hW1 : ((B1.alloc (.cells (encP zeroP { data := #[] } Vc.nil Vc.nil Vc.nil).toArray 35)).setRow (w.heap.size + 2) (encP (baseP 11 p.frm p.to) { data := #[] } Vc.nil Vc.nil Vc.nil).toArray) = W1 at S1
  rw [show ((B1.alloc (.cells #[.int .i64 0, .int .i64 0, .int .i64 0, .int .u64 0, .int .i64 0, .int .i64 0, .int .u32 0, .int .u64 0, .int .i64 0, .slice none 0 0, .string { data := #[] }, .int .u64 0, .int .u32 0, .slice none 0 0, .int .u64 0, .int .i64 0, .int .u32 0, .int .u64 0, .int .u64 0, .int .i64 0, .int .u64 0, .slice none 0 0] 35)).setRow (w.heap.size + 2) (encP (baseP 11 p.frm p.to) { data := #[] } Vc.nil Vc.nil Vc.nil).toArray) = W1 from hW1]
  clear hW1 HB hz
  obtain ⟨g, hg⟩ : ∃ g, g = w.heap.size + 2 := ⟨_, rfl⟩
  rw [← hg] at S1
  rw [← hg]
  have hne : g ≠ w.heap.size := by omega
  have hne2 : w.heap.size ≠ g := by omega
  clear hg B1
  have c0 : W1.cell? ⟨w.heap.size, 0, none⟩ = some (.int .i64 11) := by rw [← HK.out]; exact S1.box.at_ 0 _ rfl
  have c3 : W1.cell? ⟨w.heap.size, 3, none⟩ = some (.int .u64 (p.conf.e : Int)) := S1.box.at_ 3 _ rfl
  have c4 : W1.cell? ⟨w.heap.size, 4, none⟩ = some (.int .i64 p.conf.r) := S1.box.at_ 4 _ rfl
  have d3 : W1.cell? ⟨g, 3, none⟩ = some (.int .u64 0) := S1.row.at_ 3 _ rfl
  have f3 := S1.row.free 3
  have d4 : W1.cell? ⟨g, 4, none⟩ = some (.int .i64 0) := S1.row.at_ 4 _ rfl
  have f4 := S1.row.free 4
  go_upto_region 5 with fail
  have S2 := (S1.set 3 (.int .u64 (p.conf.e : Int)) (q' := { baseP 11 p.frm p.to with conf := ⟨p.conf.e, 0⟩ }) (T2 := { data := #[] }) (sd := Vc.nil) (sg := Vc.nil) (sx := Vc.nil) rfl ⟨rfl, OwnVec.nil _ _, OwnVec.nil _ _, OwnXs.nil _ _⟩).set 4 (.int .i64 p.conf.r) (q' := { baseP 11 p.frm p.to with conf := p.conf }) (T2 := { data := #[] }) (sd := Vc.nil) (sg := Vc.nil) (sx := Vc.nil) rfl ⟨rfl, OwnVec.nil _ _, OwnVec.nil _ _, OwnXs.nil _ _⟩
  generalize ((W1.setCell ⟨g, 3, none⟩ (.int .u64 (p.conf.e : Int))).setCell ⟨g, 4, none⟩ (.int .i64 p.conf.r)) = W2 at *
  clear S1 c0 c3 c4 d3 d4 f3 f4
  have c0 : W2.cell? ⟨w.heap.size, 0, none⟩ = some (.int .i64 11) := by rw [← HK.out]; exact S2.box.at_ 0 _ rfl
  have HE : Hid (cleanP p = { baseP 11 p.frm p.to with conf := p.conf }) := Lib.hid (by unfold cleanP; rw [show rowP p = [.c] from by unfold rowP; rw [HK.out]; rfl, HK.out]; rfl)
  go_upto_region 23 with fail
  go_wp2_with (first | (refine load_packet rfl (.tmp 3) rfl g rfl S2.row ?_) | (refine store_packet rfl (.tmp 2) (.tmp 99) rfl (w.heap.size + 1) rfl rfl S2.res ?_))
  (try simp only [Exit.inBlock, Exit.then])
  refine bodyPost_ret (results_packet rfl _ _ (w.heap.size + 1) rfl (S2.res.row _)) rfl ?_
  exact S2.done HE.out
end Go.Proofs.Ytgkddjapcdjalaa

/- Cleaning a packet: every kind. (Written by wip/gen_clean.py.) -/
set_option linter.unusedVariables false
set_option linter.unusedSimpArgs false
namespace Go.Proofs.Ytgkddjapcdjalaa
open Go.RowKit Go.Sort

set_option maxHeartbeats 4000000 in
set_option maxRecDepth 100000 in
theorem pclean_low (w : World) (p : Pk) (T : ByteArray) (vd vg vx : Vc) (ht : PkAt w p T vd vg vx) (hsm : Small p) (hk : p.kind < 1) :
    Calls Try.prog 13 #[.agg (encP p T vd vg vx).toArray] w (ClPost w p) := by
  obtain ⟨da, dn, dc⟩ := vd
  obtain ⟨ga, gn, gc⟩ := vg
  obtain ⟨xa, xn, xc⟩ := vx
  have S0 := CSt.new (w := w) p T ⟨da, dn, dc⟩ ⟨ga, gn, gc⟩ ⟨xa, xn, xc⟩ p.kind p.frm p.to
  have hd : dn ≤ 1048576 := by have := ht.deps.len; simp only at this; rw [← this]; exact hsm.deps
  have hgn : gn ≤ 1048576 := by have := ht.got.len; simp only at this; rw [← this]; exact hsm.got
  have hxn : xn ≤ 1048576 := by have := ht.xs.len; simp only at this; rw [← this]; exact hsm.xs
  have hT : T.size ≤ 1048576 := by rw [size_text ht.text]; exact hsm.text
  have HC : Hid (∀ x ∈ p.x, x.cnt.length ≤ 1048576) := Lib.hid hsm.cnt
  have HT := Lib.hid ht
  clear ht hsm
  obtain ⟨B1, hB1⟩ : ∃ B1, B1 = (w.alloc (.cells (encP p T ⟨da, dn, dc⟩ ⟨ga, gn, gc⟩ ⟨xa, xn, xc⟩).toArray 35)).alloc (.cells (encP zeroP { data := #[] } Vc.nil Vc.nil Vc.nil).toArray 35) := ⟨_, rfl⟩
  have hz : B1.heap.size = w.heap.size + 2 := by rw [hB1]; simp
  have G1 : Grw (w.alloc (.cells (encP p T ⟨da, dn, dc⟩ ⟨ga, gn, gc⟩ ⟨xa, xn, xc⟩).toArray 35)) B1 := by rw [hB1]; exact (Grw.refl _).alloc _
  have OB := (Own.new w 35 (encP p T ⟨da, dn, dc⟩ ⟨ga, gn, gc⟩ ⟨xa, xn, xc⟩).toArray).below G1.below (by simp)
  rw [← hB1] at S0
  have c0 : B1.cell? ⟨w.heap.size, 0, none⟩ = some (.int .i64 p.kind) := OB.at_ 0 _ rfl
  have c1 : B1.cell? ⟨w.heap.size, 1, none⟩ = some (.int .i64 p.frm) := OB.at_ 1 _ rfl
  have c2 : B1.cell? ⟨w.heap.size, 2, none⟩ = some (.int .i64 p.to) := OB.at_ 2 _ rfl
  have ON := Own.new B1 35 (encP zeroP { data := #[] } Vc.nil Vc.nil Vc.nil).toArray
  rw [hz] at ON
  have HK := Lib.hid hk
  have HB := Lib.hid hB1
  have HS := Lib.hid S0
  clear hk hB1 S0 G1 OB
  rw [show (encP p T ⟨da, dn, dc⟩ ⟨ga, gn, gc⟩ ⟨xa, xn, xc⟩).toArray = #[.int .i64 p.kind, .int .i64 p.frm, .int .i64 p.to, .int .u64 (p.conf.e : Int), .int .i64 p.conf.r, .int .i64 p.m.f, .int .u32 (p.m.q : Int), .int .u64 (p.m.s : Int), .int .i64 p.m.v, .slice da dn dc, .string T, .int .u64 (p.stamp : Int), .int .u32 (p.sent : Int), .slice ga gn gc, .int .u64 (p.hor : Int), .int .i64 p.whom, .int .u32 (p.seq : Int), .int .u64 (p.mem : Int), .int .u64 (p.prom.e : Int), .int .i64 p.prom.r, .int .u64 (p.epoch : Int), .slice xa xn xc] from rfl]
  go_enter Try.func13, Try.ntmps13
  go_upto_region 1 with fail
  rw [show ((w.alloc (.cells #[.int .i64 p.kind, .int .i64 p.frm, .int .i64 p.to, .int .u64 (p.conf.e : Int), .int .i64 p.conf.r, .int .i64 p.m.f, .int .u32 (p.m.q : Int), .int .u64 (p.m.s : Int), .int .i64 p.m.v, .slice da dn dc, .string T, .int .u64 (p.stamp : Int), .int .u32 (p.sent : Int), .slice ga gn gc, .int .u64 (p.hor : Int), .int .i64 p.whom, .int .u32 (p.seq : Int), .int .u64 (p.mem : Int), .int .u64 (p.prom.e : Int), .int .i64 p.prom.r, .int .u64 (p.epoch : Int), .slice xa xn xc] 35)).alloc (.cells #[.int .i64 0, .int .i64 0, .int .i64 0, .int .u64 0, .int .i64 0, .int .i64 0, .int .u32 0, .int .u64 0, .int .i64 0, .slice none 0 0, .string { data := #[] }, .int .u64 0, .int .u32 0, .slice none 0 0, .int .u64 0, .int .i64 0, .int .u32 0, .int .u64 0, .int .u64 0, .int .i64 0, .int .u64 0, .slice none 0 0] 35)) = B1 from HB.out.symm]
  go_upto_region 2 with (refine store_packet (p := baseP p.kind p.frm p.to) (T := { data := #[] }) (vd := Vc.nil) (vg := Vc.nil) (vx := Vc.nil) rfl (.tmp 3) (.tmp 10) rfl (w.heap.size + 2) rfl rfl ON ?_)
  have S1 := HS.out
  clear HS c0 c1 c2 ON
  generalize hW1 : ((B1.alloc (.cells (encP zeroP { data := #[] } Vc.nil Vc.nil Vc.nil).toArray 35)).setRow (w.heap.size + 2) (encP (baseP p.kind p.frm p.to) { data := #[] } Vc.nil Vc.nil Vc.nil).toArray) = W1 at S1
  rw [show ((B1.alloc (.cells #[.int .i64 0, .int .i64 0, .int .i64 0, .int .u64 0, .int .i64 0, .int .i64 0, .int .u32 0, .int .u64 0, .int .i64 0, .slice none 0 0, .string { data := #[] }, .int .u64 0, .int .u32 0, .slice none 0 0, .int .u64 0, .int .i64 0, .int .u32 0, .int .u64 0, .int .u64 0, .int .i64 0, .int .u64 0, .slice none 0 0] 35)).setRow (w.heap.size + 2) (encP (baseP p.kind p.frm p.to) { data := #[] } Vc.nil Vc.nil Vc.nil).toArray) = W1 from hW1]
  clear hW1 HB hz
  obtain ⟨g, hg⟩ : ∃ g, g = w.heap.size + 2 := ⟨_, rfl⟩
  rw [← hg] at S1
  rw [← hg]
  have hne : g ≠ w.heap.size := by omega
  have hne2 : w.heap.size ≠ g := by omega
  clear hg B1
  have c0 : W1.cell? ⟨w.heap.size, 0, none⟩ = some (.int .i64 p.kind) := S1.box.at_ 0 _ rfl
  have hk := HK.out
  go_upto_region 3 with fail
  go_wp2_with (first | (refine load_packet rfl (.tmp 3) rfl g rfl S1.row ?_) | (refine store_packet rfl (.tmp 2) (.tmp 19) rfl (w.heap.size + 1) rfl rfl S1.res ?_))
  (try simp only [Exit.inBlock, Exit.then])
  refine bodyPost_ret (results_packet rfl _ _ (w.heap.size + 1) rfl (S1.res.row _)) rfl ?_
  exact S1.done (by unfold cleanP; rw [show rowP p = [] from by unfold rowP; rw [if_neg (by omega)]]; rfl)

set_option maxHeartbeats 4000000 in
set_option maxRecDepth 100000 in
theorem pclean_high (w : World) (p : Pk) (T : ByteArray) (vd vg vx : Vc) (ht : PkAt w p T vd vg vx) (hsm : Small p) (hk : 11 < p.kind) :
    Calls Try.prog 13 #[.agg (encP p T vd vg vx).toArray] w (ClPost w p) := by
  obtain ⟨da, dn, dc⟩ := vd
  obtain ⟨ga, gn, gc⟩ := vg
  obtain ⟨xa, xn, xc⟩ := vx
  have S0 := CSt.new (w := w) p T ⟨da, dn, dc⟩ ⟨ga, gn, gc⟩ ⟨xa, xn, xc⟩ p.kind p.frm p.to
  have hd : dn ≤ 1048576 := by have := ht.deps.len; simp only at this; rw [← this]; exact hsm.deps
  have hgn : gn ≤ 1048576 := by have := ht.got.len; simp only at this; rw [← this]; exact hsm.got
  have hxn : xn ≤ 1048576 := by have := ht.xs.len; simp only at this; rw [← this]; exact hsm.xs
  have hT : T.size ≤ 1048576 := by rw [size_text ht.text]; exact hsm.text
  have HC : Hid (∀ x ∈ p.x, x.cnt.length ≤ 1048576) := Lib.hid hsm.cnt
  have HT := Lib.hid ht
  clear ht hsm
  obtain ⟨B1, hB1⟩ : ∃ B1, B1 = (w.alloc (.cells (encP p T ⟨da, dn, dc⟩ ⟨ga, gn, gc⟩ ⟨xa, xn, xc⟩).toArray 35)).alloc (.cells (encP zeroP { data := #[] } Vc.nil Vc.nil Vc.nil).toArray 35) := ⟨_, rfl⟩
  have hz : B1.heap.size = w.heap.size + 2 := by rw [hB1]; simp
  have G1 : Grw (w.alloc (.cells (encP p T ⟨da, dn, dc⟩ ⟨ga, gn, gc⟩ ⟨xa, xn, xc⟩).toArray 35)) B1 := by rw [hB1]; exact (Grw.refl _).alloc _
  have OB := (Own.new w 35 (encP p T ⟨da, dn, dc⟩ ⟨ga, gn, gc⟩ ⟨xa, xn, xc⟩).toArray).below G1.below (by simp)
  rw [← hB1] at S0
  have c0 : B1.cell? ⟨w.heap.size, 0, none⟩ = some (.int .i64 p.kind) := OB.at_ 0 _ rfl
  have c1 : B1.cell? ⟨w.heap.size, 1, none⟩ = some (.int .i64 p.frm) := OB.at_ 1 _ rfl
  have c2 : B1.cell? ⟨w.heap.size, 2, none⟩ = some (.int .i64 p.to) := OB.at_ 2 _ rfl
  have ON := Own.new B1 35 (encP zeroP { data := #[] } Vc.nil Vc.nil Vc.nil).toArray
  rw [hz] at ON
  have HK := Lib.hid hk
  have HB := Lib.hid hB1
  have HS := Lib.hid S0
  clear hk hB1 S0 G1 OB
  rw [show (encP p T ⟨da, dn, dc⟩ ⟨ga, gn, gc⟩ ⟨xa, xn, xc⟩).toArray = #[.int .i64 p.kind, .int .i64 p.frm, .int .i64 p.to, .int .u64 (p.conf.e : Int), .int .i64 p.conf.r, .int .i64 p.m.f, .int .u32 (p.m.q : Int), .int .u64 (p.m.s : Int), .int .i64 p.m.v, .slice da dn dc, .string T, .int .u64 (p.stamp : Int), .int .u32 (p.sent : Int), .slice ga gn gc, .int .u64 (p.hor : Int), .int .i64 p.whom, .int .u32 (p.seq : Int), .int .u64 (p.mem : Int), .int .u64 (p.prom.e : Int), .int .i64 p.prom.r, .int .u64 (p.epoch : Int), .slice xa xn xc] from rfl]
  go_enter Try.func13, Try.ntmps13
  go_upto_region 1 with fail
  rw [show ((w.alloc (.cells #[.int .i64 p.kind, .int .i64 p.frm, .int .i64 p.to, .int .u64 (p.conf.e : Int), .int .i64 p.conf.r, .int .i64 p.m.f, .int .u32 (p.m.q : Int), .int .u64 (p.m.s : Int), .int .i64 p.m.v, .slice da dn dc, .string T, .int .u64 (p.stamp : Int), .int .u32 (p.sent : Int), .slice ga gn gc, .int .u64 (p.hor : Int), .int .i64 p.whom, .int .u32 (p.seq : Int), .int .u64 (p.mem : Int), .int .u64 (p.prom.e : Int), .int .i64 p.prom.r, .int .u64 (p.epoch : Int), .slice xa xn xc] 35)).alloc (.cells #[.int .i64 0, .int .i64 0, .int .i64 0, .int .u64 0, .int .i64 0, .int .i64 0, .int .u32 0, .int .u64 0, .int .i64 0, .slice none 0 0, .string { data := #[] }, .int .u64 0, .int .u32 0, .slice none 0 0, .int .u64 0, .int .i64 0, .int .u32 0, .int .u64 0, .int .u64 0, .int .i64 0, .int .u64 0, .slice none 0 0] 35)) = B1 from HB.out.symm]
  go_upto_region 2 with (refine store_packet (p := baseP p.kind p.frm p.to) (T := { data := #[] }) (vd := Vc.nil) (vg := Vc.nil) (vx := Vc.nil) rfl (.tmp 3) (.tmp 10) rfl (w.heap.size + 2) rfl rfl ON ?_)
  have S1 := HS.out
  clear HS c0 c1 c2 ON
  generalize hW1 : ((B1.alloc (.cells (encP zeroP { data := #[] } Vc.nil Vc.nil Vc.nil).toArray 35)).setRow (w.heap.size + 2) (encP (baseP p.kind p.frm p.to) { data := #[] } Vc.nil Vc.nil Vc.nil).toArray) = W1 at S1
  rw [show ((B1.alloc (.cells #[.int .i64 0, .int .i64 0, .int .i64 0, .int .u64 0, .int .i64 0, .int .i64 0, .int .u32 0, .int .u64 0, .int .i64 0, .slice none 0 0, .string { data := #[] }, .int .u64 0, .int .u32 0, .slice none 0 0, .int .u64 0, .int .i64 0, .int .u32 0, .int .u64 0, .int .u64 0, .int .i64 0, .int .u64 0, .slice none 0 0] 35)).setRow (w.heap.size + 2) (encP (baseP p.kind p.frm p.to) { data := #[] } Vc.nil Vc.nil Vc.nil).toArray) = W1 from hW1]
  clear hW1 HB hz
  obtain ⟨g, hg⟩ : ∃ g, g = w.heap.size + 2 := ⟨_, rfl⟩
  rw [← hg] at S1
  rw [← hg]
  have hne : g ≠ w.heap.size := by omega
  have hne2 : w.heap.size ≠ g := by omega
  clear hg B1
  have c0 : W1.cell? ⟨w.heap.size, 0, none⟩ = some (.int .i64 p.kind) := S1.box.at_ 0 _ rfl
  have hk := HK.out
  have hk1 : ¬ p.kind < 1 := by omega
  go_upto_region 3 with fail
  go_wp2_with (first | (refine load_packet rfl (.tmp 3) rfl g rfl S1.row ?_) | (refine store_packet rfl (.tmp 2) (.tmp 19) rfl (w.heap.size + 1) rfl rfl S1.res ?_))
  (try simp only [Exit.inBlock, Exit.then])
  refine bodyPost_ret (results_packet rfl _ _ (w.heap.size + 1) rfl (S1.res.row _)) rfl ?_
  exact S1.done (by unfold cleanP; rw [show rowP p = [] from by unfold rowP; rw [if_neg (by omega)]]; rfl)

theorem pclean (w : World) (p : Pk) (T : ByteArray) (vd vg vx : Vc) (ht : PkAt w p T vd vg vx) (hsm : Small p) :
    Calls Try.prog 13 #[.agg (encP p T vd vg vx).toArray] w (ClPost w p) := by
  obtain hk | hk | hk | hk | hk | hk | hk | hk | hk | hk | hk | hk | hk : p.kind < 1 ∨ 11 < p.kind ∨ p.kind = 1 ∨ p.kind = 2 ∨ p.kind = 3 ∨ p.kind = 4 ∨ p.kind = 5 ∨ p.kind = 6 ∨ p.kind = 7 ∨ p.kind = 8 ∨ p.kind = 9 ∨ p.kind = 10 ∨ p.kind = 11 := by omega
  · exact pclean_low w p T vd vg vx ht hsm hk
  · exact pclean_high w p T vd vg vx ht hsm hk
  · exact pclean_1 w p T vd vg vx ht hsm hk
  · exact pclean_2 w p T vd vg vx ht hsm hk
  · exact pclean_3 w p T vd vg vx ht hsm hk
  · exact pclean_4 w p T vd vg vx ht hsm hk
  · exact pclean_5 w p T vd vg vx ht hsm hk
  · exact pclean_6 w p T vd vg vx ht hsm hk
  · exact pclean_7 w p T vd vg vx ht hsm hk
  · exact pclean_8 w p T vd vg vx ht hsm hk
  · exact pclean_9 w p T vd vg vx ht hsm hk
  · exact pclean_10 w p T vd vg vx ht hsm hk
  · exact pclean_11 w p T vd vg vx ht hsm hk
end Go.Proofs.Ytgkddjapcdjalaa
