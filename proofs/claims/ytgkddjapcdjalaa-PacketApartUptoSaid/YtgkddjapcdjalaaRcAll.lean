import Derived.Test.YtgkddjapcdjalaaRcKit
import Derived.Deep.DeepCutAuto
/- The document's Clean: kind 1. (Written by wip/gen_refclean.py.) -/
set_option linter.unusedVariables false
set_option linter.unusedSimpArgs false
namespace Go.Proofs.Ytgkddjapcdjalaa
open Go.RowKit Go.Sort

set_option maxHeartbeats 4000000 in
set_option maxRecDepth 100000 in
theorem rclean_1 (w : World) (p : Pk) (T : ByteArray) (vd vg vx : Vc) (ht : PkAt w p T vd vg vx) (hsm : Small p) (hk : p.kind = 1) :
    Calls Try.prog 15 #[.agg (encP p T vd vg vx).toArray] w (RcPost w p) := by
  obtain ⟨da, dn, dc⟩ := vd
  obtain ⟨ga, gn, gc⟩ := vg
  obtain ⟨xa, xn, xc⟩ := vx
  have S0 := CSt.new (w := w) p T ⟨da, dn, dc⟩ ⟨ga, gn, gc⟩ ⟨xa, xn, xc⟩ 1 p.frm p.to
  have hd : dn ≤ 1048576 := by have := ht.deps.len; simp only at this; rw [← this]; exact hsm.deps
  have hgn : gn ≤ 1048576 := by have := ht.got.len; simp only at this; rw [← this]; exact hsm.got
  have hxn : xn ≤ 1048576 := by have := ht.xs.len; simp only at this; rw [← this]; exact hsm.xs
  have hT : T.size ≤ 1048576 := by rw [size_text ht.text]; exact hsm.text
  have HC : Hid (∀ x ∈ p.x, x.cnt.length ≤ 1048576) := Lib.hid hsm.cnt
  have HT := Lib.hid ht
  clear ht hsm
  obtain ⟨B1, hB1⟩ : ∃ B1, B1 = (w.alloc (.cells (encP p T ⟨da, dn, dc⟩ ⟨ga, gn, gc⟩ ⟨xa, xn, xc⟩).toArray 35)).alloc (.cells (encP zeroP { data := #[] } Vc.nil Vc.nil Vc.nil).toArray 35) := ⟨_, rfl⟩
  have hz : B1.heap.size = w.heap.size + 2 := by rw [hB1]; simp
  have G1 : Grw (w.alloc (.cells (encP p T ⟨da, dn, dc⟩ ⟨ga, gn, gc⟩ ⟨xa, xn, xc⟩).toArray 35)) B1 := by rw [hB1]; exact (Grw.refl _).alloc _
  have OB := (Own.new w 35 (encP p T ⟨da, dn, dc⟩ ⟨ga, gn, gc⟩ ⟨xa, xn, xc⟩).toArray).below G1.below (by simp)
  rw [← hB1] at S0
  have c0 : B1.cell? ⟨w.heap.size, 0, none⟩ = some (.int .i64 1) := by rw [← hk]; exact OB.at_ 0 _ rfl
  have c1 : B1.cell? ⟨w.heap.size, 1, none⟩ = some (.int .i64 p.frm) := OB.at_ 1 _ rfl
  have c2 : B1.cell? ⟨w.heap.size, 2, none⟩ = some (.int .i64 p.to) := OB.at_ 2 _ rfl
  have ON := Own.new B1 35 (encP zeroP { data := #[] } Vc.nil Vc.nil Vc.nil).toArray
  rw [hz] at ON
  have HK := Lib.hid hk
  have HB := Lib.hid hB1
  have HS := Lib.hid S0
  clear hk hB1 S0 G1 OB
  rw [show (encP p T ⟨da, dn, dc⟩ ⟨ga, gn, gc⟩ ⟨xa, xn, xc⟩).toArray = #[.int .i64 p.kind, .int .i64 p.frm, .int .i64 p.to, .int .u64 (p.conf.e : Int), .int .i64 p.conf.r, .int .i64 p.m.f, .int .u32 (p.m.q : Int), .int .u64 (p.m.s : Int), .int .i64 p.m.v, .slice da dn dc, .string T, .int .u64 (p.stamp : Int), .int .u32 (p.sent : Int), .slice ga gn gc, .int .u64 (p.hor : Int), .int .i64 p.whom, .int .u32 (p.seq : Int), .int .u64 (p.mem : Int), .int .u64 (p.prom.e : Int), .int .i64 p.prom.r, .int .u64 (p.epoch : Int), .slice xa xn xc] from rfl]
  go_enter Try.func15, Try.ntmps15
  go_upto_region 1 with fail
  rw [show ((w.alloc (.cells #[.int .i64 p.kind, .int .i64 p.frm, .int .i64 p.to, .int .u64 (p.conf.e : Int), .int .i64 p.conf.r, .int .i64 p.m.f, .int .u32 (p.m.q : Int), .int .u64 (p.m.s : Int), .int .i64 p.m.v, .slice da dn dc, .string T, .int .u64 (p.stamp : Int), .int .u32 (p.sent : Int), .slice ga gn gc, .int .u64 (p.hor : Int), .int .i64 p.whom, .int .u32 (p.seq : Int), .int .u64 (p.mem : Int), .int .u64 (p.prom.e : Int), .int .i64 p.prom.r, .int .u64 (p.epoch : Int), .slice xa xn xc] 35)).alloc (.cells #[.int .i64 0, .int .i64 0, .int .i64 0, .int .u64 0, .int .i64 0, .int .i64 0, .int .u32 0, .int .u64 0, .int .i64 0, .slice none 0 0, .string { data := #[] }, .int .u64 0, .int .u32 0, .slice none 0 0, .int .u64 0, .int .i64 0, .int .u32 0, .int .u64 0, .int .u64 0, .int .i64 0, .int .u64 0, .slice none 0 0] 35)) = B1 from HB.out.symm]
  go_upto_region 2 with (refine store_packet (p := baseP 1 p.frm p.to) (T := { data := #[] }) (vd := Vc.nil) (vg := Vc.nil) (vx := Vc.nil) rfl (.tmp 3) (.tmp 11) rfl (w.heap.size + 2) rfl rfl ON ?_)
  have S1 := HS.out.shared
  clear HS c0 c1 c2 ON
  generalize hW1 : ((B1.alloc (.cells (encP zeroP { data := #[] } Vc.nil Vc.nil Vc.nil).toArray 35)).setRow (w.heap.size + 2) (encP (baseP 1 p.frm p.to) { data := #[] } Vc.nil Vc.nil Vc.nil).toArray) = W1 at S1
  rw [show ((B1.alloc (.cells #[.int .i64 0, .int .i64 0, .int .i64 0, .int .u64 0, .int .i64 0, .int .i64 0, .int .u32 0, .int .u64 0, .int .i64 0, .slice none 0 0, .string { data := #[] }, .int .u64 0, .int .u32 0, .slice none 0 0, .int .u64 0, .int .i64 0, .int .u32 0, .int .u64 0, .int .u64 0, .int .i64 0, .int .u64 0, .slice none 0 0] 35)).setRow (w.heap.size + 2) (encP (baseP 1 p.frm p.to) { data := #[] } Vc.nil Vc.nil Vc.nil).toArray) = W1 from hW1]
  clear hW1 HB hz
  obtain ⟨g, hg⟩ : ∃ g, g = w.heap.size + 2 := ⟨_, rfl⟩
  rw [← hg] at S1
  rw [← hg]
  have hne : g ≠ w.heap.size := by omega
  have hne2 : w.heap.size ≠ g := by omega
  clear hg B1
  have c0 : W1.cell? ⟨w.heap.size, 0, none⟩ = some (.int .i64 1) := by rw [← HK.out]; exact S1.box.at_ 0 _ rfl
  have c3 : W1.cell? ⟨w.heap.size, 3, none⟩ = some (.int .u64 (p.conf.e : Int)) := S1.box.at_ 3 _ rfl
  have c4 : W1.cell? ⟨w.heap.size, 4, none⟩ = some (.int .i64 p.conf.r) := S1.box.at_ 4 _ rfl
  have d3 : W1.cell? ⟨g, 3, none⟩ = some (.int .u64 0) := S1.row.at_ 3 _ rfl
  have f3 := S1.row.free 3
  have d4 : W1.cell? ⟨g, 4, none⟩ = some (.int .i64 0) := S1.row.at_ 4 _ rfl
  have f4 := S1.row.free 4
  go_upto_region 4 with fail
  go_wp2_with fail
  refine (row_1 W1).mono ?_
  rintro e w2 ⟨rfl, rfl⟩
  rw [show rowS 1 = { data := #[99, 109] } from rfl]
  go_upto_region 6 with fail
  have S2 := (S1.set 3 (.int .u64 (p.conf.e : Int)) (q' := { baseP 1 p.frm p.to with conf := ⟨p.conf.e, 0⟩ }) (T2 := { data := #[] }) (sd := Vc.nil) (sg := Vc.nil) (sx := Vc.nil) rfl).set 4 (.int .i64 p.conf.r) (q' := { baseP 1 p.frm p.to with conf := p.conf }) (T2 := { data := #[] }) (sd := Vc.nil) (sg := Vc.nil) (sx := Vc.nil) rfl
  generalize ((W1.setCell ⟨g, 3, none⟩ (.int .u64 (p.conf.e : Int))).setCell ⟨g, 4, none⟩ (.int .i64 p.conf.r)) = W2 at *
  clear S1 c0 c3 c4 d3 d4 f3 f4
  have c1 : W2.cell? ⟨w.heap.size, 1, none⟩ = some (.int .i64 p.frm) := S2.box.at_ 1 _ rfl
  have c5 : W2.cell? ⟨w.heap.size, 5, none⟩ = some (.int .i64 p.m.f) := S2.box.at_ 5 _ rfl
  have c6 : W2.cell? ⟨w.heap.size, 6, none⟩ = some (.int .u32 (p.m.q : Int)) := S2.box.at_ 6 _ rfl
  have c7 : W2.cell? ⟨w.heap.size, 7, none⟩ = some (.int .u64 (p.m.s : Int)) := S2.box.at_ 7 _ rfl
  have c8 : W2.cell? ⟨w.heap.size, 8, none⟩ = some (.int .i64 p.m.v) := S2.box.at_ 8 _ rfl
  have c9 : W2.cell? ⟨w.heap.size, 9, none⟩ = some (.slice da dn dc) := S2.box.at_ 9 _ rfl
  have c10 : W2.cell? ⟨w.heap.size, 10, none⟩ = some (.string T) := S2.box.at_ 10 _ rfl
  have d5 : W2.cell? ⟨g, 5, none⟩ = some (.int .i64 0) := S2.row.at_ 5 _ rfl
  have f5 := S2.row.free 5
  have d6 : W2.cell? ⟨g, 6, none⟩ = some (.int .u32 0) := S2.row.at_ 6 _ rfl
  have f6 := S2.row.free 6
  have d7 : W2.cell? ⟨g, 7, none⟩ = some (.int .u64 0) := S2.row.at_ 7 _ rfl
  have f7 := S2.row.free 7
  have d8 : W2.cell? ⟨g, 8, none⟩ = some (.int .i64 0) := S2.row.at_ 8 _ rfl
  have f8 := S2.row.free 8
  have d9 : W2.cell? ⟨g, 9, none⟩ = some (.slice none 0 0) := S2.row.at_ 9 _ rfl
  have f9 := S2.row.free 9
  have d10 : W2.cell? ⟨g, 10, none⟩ = some (.string { data := #[] }) := S2.row.at_ 10 _ rfl
  have f10 := S2.row.free 10
  have hb : ∀ w : World, Calls Try.prog 38 #[.string { data := #[99, 109] }, .int .u8 98] w fun e w' => e = .returned (.bool false) ∧ w = w' := fun w => has_at { data := #[99, 109] } 98 false (by decide) (by decide) (by decide) w
  have hl : ∀ w : World, Calls Try.prog 38 #[.string { data := #[99, 109] }, .int .u8 108] w fun e w' => e = .returned (.bool false) ∧ w = w' := fun w => has_at { data := #[99, 109] } 108 false (by decide) (by decide) (by decide) w
  have hm : ∀ w : World, Calls Try.prog 38 #[.string { data := #[99, 109] }, .int .u8 109] w fun e w' => e = .returned (.bool true) ∧ w = w' := fun w => has_at { data := #[99, 109] } 109 true (by decide) (by decide) (by decide) w
  have hp : ∀ w : World, Calls Try.prog 38 #[.string { data := #[99, 109] }, .int .u8 112] w fun e w' => e = .returned (.bool false) ∧ w = w' := fun w => has_at { data := #[99, 109] } 112 false (by decide) (by decide) (by decide) w
  have hq : ∀ w : World, Calls Try.prog 38 #[.string { data := #[99, 109] }, .int .u8 113] w fun e w' => e = .returned (.bool false) ∧ w = w' := fun w => has_at { data := #[99, 109] } 113 false (by decide) (by decide) (by decide) w
  have hs : ∀ w : World, Calls Try.prog 38 #[.string { data := #[99, 109] }, .int .u8 115] w fun e w' => e = .returned (.bool false) ∧ w = w' := fun w => has_at { data := #[99, 109] } 115 false (by decide) (by decide) (by decide) w
  have hw : ∀ w : World, Calls Try.prog 38 #[.string { data := #[99, 109] }, .int .u8 119] w fun e w' => e = .returned (.bool false) ∧ w = w' := fun w => has_at { data := #[99, 109] } 119 false (by decide) (by decide) (by decide) w
  have hx : ∀ w : World, Calls Try.prog 38 #[.string { data := #[99, 109] }, .int .u8 120] w fun e w' => e = .returned (.bool false) ∧ w = w' := fun w => has_at { data := #[99, 109] } 120 false (by decide) (by decide) (by decide) w
  go_upto_region 27 with (go_at_call 38; (first | (with_reducible refine (hb _).mono ?_) | (with_reducible refine (hl _).mono ?_) | (with_reducible refine (hm _).mono ?_) | (with_reducible refine (hp _).mono ?_) | (with_reducible refine (hq _).mono ?_) | (with_reducible refine (hs _).mono ?_) | (with_reducible refine (hw _).mono ?_) | (with_reducible refine (hx _).mono ?_)); rintro e w' ⟨rfl, rfl⟩)
  have U1 := S2.set 5 (.int .i64 p.m.f) (q' := { baseP 1 p.frm p.to with conf := p.conf, m := ⟨p.m.f, 0, 0, 0, [], []⟩ }) (T2 := { data := #[] }) (sd := Vc.nil) (sg := Vc.nil) (sx := Vc.nil) rfl
  have U2 := U1.set 6 (.int .u32 (p.m.q : Int)) (q' := { baseP 1 p.frm p.to with conf := p.conf, m := ⟨p.m.f, p.m.q, 0, 0, [], []⟩ }) (T2 := { data := #[] }) (sd := Vc.nil) (sg := Vc.nil) (sx := Vc.nil) rfl
  have U3 := U2.set 7 (.int .u64 (p.m.s : Int)) (q' := { baseP 1 p.frm p.to with conf := p.conf, m := ⟨p.m.f, p.m.q, p.m.s, 0, [], []⟩ }) (T2 := { data := #[] }) (sd := Vc.nil) (sg := Vc.nil) (sx := Vc.nil) rfl
  have U4 := U3.set 8 (.int .i64 p.m.v) (q' := { baseP 1 p.frm p.to with conf := p.conf, m := ⟨p.m.f, p.m.q, p.m.s, p.m.v, [], []⟩ }) (T2 := { data := #[] }) (sd := Vc.nil) (sg := Vc.nil) (sx := Vc.nil) rfl
  have U5 := U4.set 9 (.slice da dn dc) (q' := { baseP 1 p.frm p.to with conf := p.conf, m := ⟨p.m.f, p.m.q, p.m.s, p.m.v, p.m.deps, []⟩ }) (T2 := { data := #[] }) (sd := ⟨da, dn, dc⟩) (sg := Vc.nil) (sx := Vc.nil) rfl
  have U6 := U5.set 10 (.string T) (q' := { baseP 1 p.frm p.to with conf := p.conf, m := ⟨p.m.f, p.m.q, p.m.s, p.m.v, p.m.deps, p.m.text⟩ }) (T2 := T) (sd := ⟨da, dn, dc⟩) (sg := Vc.nil) (sx := Vc.nil) rfl
  have U7 := U6.set 5 (.int .i64 p.frm) (q' := { baseP 1 p.frm p.to with conf := p.conf, m := { p.m with f := p.frm } }) (T2 := T) (sd := ⟨da, dn, dc⟩) (sg := Vc.nil) (sx := Vc.nil) rfl
  have HE : Hid (cleanP p = { baseP 1 p.frm p.to with conf := p.conf, m := { p.m with f := p.frm } }) := Lib.hid (by unfold cleanP; rw [show rowP p = [.c, .m] from by unfold rowP; rw [HK.out]; rfl, HK.out]; rfl)
  have SZ := U7
  go_wp2_with (first | (refine load_packet rfl (.tmp 3) rfl g rfl SZ.row ?_) | (refine store_packet rfl (.tmp 2) (.tmp 88) rfl (w.heap.size + 1) rfl rfl SZ.res ?_))
  (try simp only [Exit.inBlock, Exit.then])
  refine bodyPost_ret (results_packet rfl _ _ (w.heap.size + 1) rfl (SZ.res.row _)) rfl ?_
  exact SZ.done HE.out ⟨HT.out.text, HT.out.deps, (OwnVec.nil 0 w).at_, (OwnXs.nil 0 w).at_⟩
end Go.Proofs.Ytgkddjapcdjalaa

/- The document's Clean: kind 2. (Written by wip/gen_refclean.py.) -/
set_option linter.unusedVariables false
set_option linter.unusedSimpArgs false
namespace Go.Proofs.Ytgkddjapcdjalaa
open Go.RowKit Go.Sort

set_option maxHeartbeats 4000000 in
set_option maxRecDepth 100000 in
theorem rclean_2 (w : World) (p : Pk) (T : ByteArray) (vd vg vx : Vc) (ht : PkAt w p T vd vg vx) (hsm : Small p) (hk : p.kind = 2) :
    Calls Try.prog 15 #[.agg (encP p T vd vg vx).toArray] w (RcPost w p) := by
  obtain ⟨da, dn, dc⟩ := vd
  obtain ⟨ga, gn, gc⟩ := vg
  obtain ⟨xa, xn, xc⟩ := vx
  have S0 := CSt.new (w := w) p T ⟨da, dn, dc⟩ ⟨ga, gn, gc⟩ ⟨xa, xn, xc⟩ 2 p.frm p.to
  have hd : dn ≤ 1048576 := by have := ht.deps.len; simp only at this; rw [← this]; exact hsm.deps
  have hgn : gn ≤ 1048576 := by have := ht.got.len; simp only at this; rw [← this]; exact hsm.got
  have hxn : xn ≤ 1048576 := by have := ht.xs.len; simp only at this; rw [← this]; exact hsm.xs
  have hT : T.size ≤ 1048576 := by rw [size_text ht.text]; exact hsm.text
  have HC : Hid (∀ x ∈ p.x, x.cnt.length ≤ 1048576) := Lib.hid hsm.cnt
  have HT := Lib.hid ht
  clear ht hsm
  obtain ⟨B1, hB1⟩ : ∃ B1, B1 = (w.alloc (.cells (encP p T ⟨da, dn, dc⟩ ⟨ga, gn, gc⟩ ⟨xa, xn, xc⟩).toArray 35)).alloc (.cells (encP zeroP { data := #[] } Vc.nil Vc.nil Vc.nil).toArray 35) := ⟨_, rfl⟩
  have hz : B1.heap.size = w.heap.size + 2 := by rw [hB1]; simp
  have G1 : Grw (w.alloc (.cells (encP p T ⟨da, dn, dc⟩ ⟨ga, gn, gc⟩ ⟨xa, xn, xc⟩).toArray 35)) B1 := by rw [hB1]; exact (Grw.refl _).alloc _
  have OB := (Own.new w 35 (encP p T ⟨da, dn, dc⟩ ⟨ga, gn, gc⟩ ⟨xa, xn, xc⟩).toArray).below G1.below (by simp)
  rw [← hB1] at S0
  have c0 : B1.cell? ⟨w.heap.size, 0, none⟩ = some (.int .i64 2) := by rw [← hk]; exact OB.at_ 0 _ rfl
  have c1 : B1.cell? ⟨w.heap.size, 1, none⟩ = some (.int .i64 p.frm) := OB.at_ 1 _ rfl
  have c2 : B1.cell? ⟨w.heap.size, 2, none⟩ = some (.int .i64 p.to) := OB.at_ 2 _ rfl
  have ON := Own.new B1 35 (encP zeroP { data := #[] } Vc.nil Vc.nil Vc.nil).toArray
  rw [hz] at ON
  have HK := Lib.hid hk
  have HB := Lib.hid hB1
  have HS := Lib.hid S0
  clear hk hB1 S0 G1 OB
  rw [show (encP p T ⟨da, dn, dc⟩ ⟨ga, gn, gc⟩ ⟨xa, xn, xc⟩).toArray = #[.int .i64 p.kind, .int .i64 p.frm, .int .i64 p.to, .int .u64 (p.conf.e : Int), .int .i64 p.conf.r, .int .i64 p.m.f, .int .u32 (p.m.q : Int), .int .u64 (p.m.s : Int), .int .i64 p.m.v, .slice da dn dc, .string T, .int .u64 (p.stamp : Int), .int .u32 (p.sent : Int), .slice ga gn gc, .int .u64 (p.hor : Int), .int .i64 p.whom, .int .u32 (p.seq : Int), .int .u64 (p.mem : Int), .int .u64 (p.prom.e : Int), .int .i64 p.prom.r, .int .u64 (p.epoch : Int), .slice xa xn xc] from rfl]
  go_enter Try.func15, Try.ntmps15
  go_upto_region 1 with fail
  rw [show ((w.alloc (.cells #[.int .i64 p.kind, .int .i64 p.frm, .int .i64 p.to, .int .u64 (p.conf.e : Int), .int .i64 p.conf.r, .int .i64 p.m.f, .int .u32 (p.m.q : Int), .int .u64 (p.m.s : Int), .int .i64 p.m.v, .slice da dn dc, .string T, .int .u64 (p.stamp : Int), .int .u32 (p.sent : Int), .slice ga gn gc, .int .u64 (p.hor : Int), .int .i64 p.whom, .int .u32 (p.seq : Int), .int .u64 (p.mem : Int), .int .u64 (p.prom.e : Int), .int .i64 p.prom.r, .int .u64 (p.epoch : Int), .slice xa xn xc] 35)).alloc (.cells #[.int .i64 0, .int .i64 0, .int .i64 0, .int .u64 0, .int .i64 0, .int .i64 0, .int .u32 0, .int .u64 0, .int .i64 0, .slice none 0 0, .string { data := #[] }, .int .u64 0, .int .u32 0, .slice none 0 0, .int .u64 0, .int .i64 0, .int .u32 0, .int .u64 0, .int .u64 0, .int .i64 0, .int .u64 0, .slice none 0 0] 35)) = B1 from HB.out.symm]
  go_upto_region 2 with (refine store_packet (p := baseP 2 p.frm p.to) (T := { data := #[] }) (vd := Vc.nil) (vg := Vc.nil) (vx := Vc.nil) rfl (.tmp 3) (.tmp 11) rfl (w.heap.size + 2) rfl rfl ON ?_)
  have S1 := HS.out.shared
  clear HS c0 c1 c2 ON
  generalize hW1 : ((B1.alloc (.cells (encP zeroP { data := #[] } Vc.nil Vc.nil Vc.nil).toArray 35)).setRow (w.heap.size + 2) (encP (baseP 2 p.frm p.to) { data := #[] } Vc.nil Vc.nil Vc.nil).toArray) = W1 at S1
  rw [show ((B1.alloc (.cells #[.int .i64 0, .int .i64 0, .int .i64 0, .int .u64 0, .int .i64 0, .int .i64 0, .int .u32 0, .int .u64 0, .int .i64 0, .slice none 0 0, .string { data := #[] }, .int .u64 0, .int .u32 0, .slice none 0 0, .int .u64 0, .int .i64 0, .int .u32 0, .int .u64 0, .int .u64 0, .int .i64 0, .int .u64 0, .slice none 0 0] 35)).setRow (w.heap.size + 2) (encP (baseP 2 p.frm p.to) { data := #[] } Vc.nil Vc.nil Vc.nil).toArray) = W1 from hW1]
  clear hW1 HB hz
  obtain ⟨g, hg⟩ : ∃ g, g = w.heap.size + 2 := ⟨_, rfl⟩
  rw [← hg] at S1
  rw [← hg]
  have hne : g ≠ w.heap.size := by omega
  have hne2 : w.heap.size ≠ g := by omega
  clear hg B1
  have c0 : W1.cell? ⟨w.heap.size, 0, none⟩ = some (.int .i64 2) := by rw [← HK.out]; exact S1.box.at_ 0 _ rfl
  have c3 : W1.cell? ⟨w.heap.size, 3, none⟩ = some (.int .u64 (p.conf.e : Int)) := S1.box.at_ 3 _ rfl
  have c4 : W1.cell? ⟨w.heap.size, 4, none⟩ = some (.int .i64 p.conf.r) := S1.box.at_ 4 _ rfl
  have d3 : W1.cell? ⟨g, 3, none⟩ = some (.int .u64 0) := S1.row.at_ 3 _ rfl
  have f3 := S1.row.free 3
  have d4 : W1.cell? ⟨g, 4, none⟩ = some (.int .i64 0) := S1.row.at_ 4 _ rfl
  have f4 := S1.row.free 4
  go_upto_region 4 with fail
  go_wp2_with fail
  refine (row_2 W1).mono ?_
  rintro e w2 ⟨rfl, rfl⟩
  rw [show rowS 2 = { data := #[99, 115, 110, 103, 104] } from rfl]
  go_upto_region 6 with fail
  have S2 := (S1.set 3 (.int .u64 (p.conf.e : Int)) (q' := { baseP 2 p.frm p.to with conf := ⟨p.conf.e, 0⟩ }) (T2 := { data := #[] }) (sd := Vc.nil) (sg := Vc.nil) (sx := Vc.nil) rfl).set 4 (.int .i64 p.conf.r) (q' := { baseP 2 p.frm p.to with conf := p.conf }) (T2 := { data := #[] }) (sd := Vc.nil) (sg := Vc.nil) (sx := Vc.nil) rfl
  generalize ((W1.setCell ⟨g, 3, none⟩ (.int .u64 (p.conf.e : Int))).setCell ⟨g, 4, none⟩ (.int .i64 p.conf.r)) = W2 at *
  clear S1 c0 c3 c4 d3 d4 f3 f4
  have c11 : W2.cell? ⟨w.heap.size, 11, none⟩ = some (.int .u64 (p.stamp : Int)) := S2.box.at_ 11 _ rfl
  have c12 : W2.cell? ⟨w.heap.size, 12, none⟩ = some (.int .u32 (p.sent : Int)) := S2.box.at_ 12 _ rfl
  have c13 : W2.cell? ⟨w.heap.size, 13, none⟩ = some (.slice ga gn gc) := S2.box.at_ 13 _ rfl
  have c14 : W2.cell? ⟨w.heap.size, 14, none⟩ = some (.int .u64 (p.hor : Int)) := S2.box.at_ 14 _ rfl
  have d11 : W2.cell? ⟨g, 11, none⟩ = some (.int .u64 0) := S2.row.at_ 11 _ rfl
  have f11 := S2.row.free 11
  have d12 : W2.cell? ⟨g, 12, none⟩ = some (.int .u32 0) := S2.row.at_ 12 _ rfl
  have f12 := S2.row.free 12
  have d13 : W2.cell? ⟨g, 13, none⟩ = some (.slice none 0 0) := S2.row.at_ 13 _ rfl
  have f13 := S2.row.free 13
  have d14 : W2.cell? ⟨g, 14, none⟩ = some (.int .u64 0) := S2.row.at_ 14 _ rfl
  have f14 := S2.row.free 14
  have hb : ∀ w : World, Calls Try.prog 38 #[.string { data := #[99, 115, 110, 103, 104] }, .int .u8 98] w fun e w' => e = .returned (.bool false) ∧ w = w' := fun w => has_at { data := #[99, 115, 110, 103, 104] } 98 false (by decide) (by decide) (by decide) w
  have hl : ∀ w : World, Calls Try.prog 38 #[.string { data := #[99, 115, 110, 103, 104] }, .int .u8 108] w fun e w' => e = .returned (.bool false) ∧ w = w' := fun w => has_at { data := #[99, 115, 110, 103, 104] } 108 false (by decide) (by decide) (by decide) w
  have hm : ∀ w : World, Calls Try.prog 38 #[.string { data := #[99, 115, 110, 103, 104] }, .int .u8 109] w fun e w' => e = .returned (.bool false) ∧ w = w' := fun w => has_at { data := #[99, 115, 110, 103, 104] } 109 false (by decide) (by decide) (by decide) w
  have hp : ∀ w : World, Calls Try.prog 38 #[.string { data := #[99, 115, 110, 103, 104] }, .int .u8 112] w fun e w' => e = .returned (.bool false) ∧ w = w' := fun w => has_at { data := #[99, 115, 110, 103, 104] } 112 false (by decide) (by decide) (by decide) w
  have hq : ∀ w : World, Calls Try.prog 38 #[.string { data := #[99, 115, 110, 103, 104] }, .int .u8 113] w fun e w' => e = .returned (.bool false) ∧ w = w' := fun w => has_at { data := #[99, 115, 110, 103, 104] } 113 false (by decide) (by decide) (by decide) w
  have hs : ∀ w : World, Calls Try.prog 38 #[.string { data := #[99, 115, 110, 103, 104] }, .int .u8 115] w fun e w' => e = .returned (.bool true) ∧ w = w' := fun w => has_at { data := #[99, 115, 110, 103, 104] } 115 true (by decide) (by decide) (by decide) w
  have hw : ∀ w : World, Calls Try.prog 38 #[.string { data := #[99, 115, 110, 103, 104] }, .int .u8 119] w fun e w' => e = .returned (.bool false) ∧ w = w' := fun w => has_at { data := #[99, 115, 110, 103, 104] } 119 false (by decide) (by decide) (by decide) w
  have hx : ∀ w : World, Calls Try.prog 38 #[.string { data := #[99, 115, 110, 103, 104] }, .int .u8 120] w fun e w' => e = .returned (.bool false) ∧ w = w' := fun w => has_at { data := #[99, 115, 110, 103, 104] } 120 false (by decide) (by decide) (by decide) w
  go_upto_region 27 with (go_at_call 38; (first | (with_reducible refine (hb _).mono ?_) | (with_reducible refine (hl _).mono ?_) | (with_reducible refine (hm _).mono ?_) | (with_reducible refine (hp _).mono ?_) | (with_reducible refine (hq _).mono ?_) | (with_reducible refine (hs _).mono ?_) | (with_reducible refine (hw _).mono ?_) | (with_reducible refine (hx _).mono ?_)); rintro e w' ⟨rfl, rfl⟩)
  have U1 := S2.set 11 (.int .u64 (p.stamp : Int)) (q' := { baseP 2 p.frm p.to with conf := p.conf, stamp := p.stamp }) (T2 := { data := #[] }) (sd := Vc.nil) (sg := Vc.nil) (sx := Vc.nil) rfl
  have U2 := U1.set 12 (.int .u32 (p.sent : Int)) (q' := { baseP 2 p.frm p.to with conf := p.conf, stamp := p.stamp, sent := p.sent }) (T2 := { data := #[] }) (sd := Vc.nil) (sg := Vc.nil) (sx := Vc.nil) rfl
  have U3 := U2.set 13 (.slice ga gn gc) (q' := { baseP 2 p.frm p.to with conf := p.conf, stamp := p.stamp, sent := p.sent, got := p.got }) (T2 := { data := #[] }) (sd := Vc.nil) (sg := ⟨ga, gn, gc⟩) (sx := Vc.nil) rfl
  have U4 := U3.set 14 (.int .u64 (p.hor : Int)) (q' := { baseP 2 p.frm p.to with conf := p.conf, stamp := p.stamp, sent := p.sent, got := p.got, hor := p.hor }) (T2 := { data := #[] }) (sd := Vc.nil) (sg := ⟨ga, gn, gc⟩) (sx := Vc.nil) rfl
  have HE : Hid (cleanP p = { baseP 2 p.frm p.to with conf := p.conf, stamp := p.stamp, sent := p.sent, got := p.got, hor := p.hor }) := Lib.hid (by unfold cleanP; rw [show rowP p = [.c, .s, .n, .g, .h] from by unfold rowP; rw [HK.out]; rfl, HK.out]; rfl)
  have SZ := U4
  go_wp2_with (first | (refine load_packet rfl (.tmp 3) rfl g rfl SZ.row ?_) | (refine store_packet rfl (.tmp 2) (.tmp 88) rfl (w.heap.size + 1) rfl rfl SZ.res ?_))
  (try simp only [Exit.inBlock, Exit.then])
  refine bodyPost_ret (results_packet rfl _ _ (w.heap.size + 1) rfl (SZ.res.row _)) rfl ?_
  exact SZ.done HE.out ⟨rfl, (OwnVec.nil 0 w).at_, HT.out.got, (OwnXs.nil 0 w).at_⟩
end Go.Proofs.Ytgkddjapcdjalaa

/- The document's Clean: kind 3. (Written by wip/gen_refclean.py.) -/
set_option linter.unusedVariables false
set_option linter.unusedSimpArgs false
namespace Go.Proofs.Ytgkddjapcdjalaa
open Go.RowKit Go.Sort

set_option maxHeartbeats 4000000 in
set_option maxRecDepth 100000 in
theorem rclean_3 (w : World) (p : Pk) (T : ByteArray) (vd vg vx : Vc) (ht : PkAt w p T vd vg vx) (hsm : Small p) (hk : p.kind = 3) :
    Calls Try.prog 15 #[.agg (encP p T vd vg vx).toArray] w (RcPost w p) := by
  obtain ⟨da, dn, dc⟩ := vd
  obtain ⟨ga, gn, gc⟩ := vg
  obtain ⟨xa, xn, xc⟩ := vx
  have S0 := CSt.new (w := w) p T ⟨da, dn, dc⟩ ⟨ga, gn, gc⟩ ⟨xa, xn, xc⟩ 3 p.frm p.to
  have hd : dn ≤ 1048576 := by have := ht.deps.len; simp only at this; rw [← this]; exact hsm.deps
  have hgn : gn ≤ 1048576 := by have := ht.got.len; simp only at this; rw [← this]; exact hsm.got
  have hxn : xn ≤ 1048576 := by have := ht.xs.len; simp only at this; rw [← this]; exact hsm.xs
  have hT : T.size ≤ 1048576 := by rw [size_text ht.text]; exact hsm.text
  have HC : Hid (∀ x ∈ p.x, x.cnt.length ≤ 1048576) := Lib.hid hsm.cnt
  have HT := Lib.hid ht
  clear ht hsm
  obtain ⟨B1, hB1⟩ : ∃ B1, B1 = (w.alloc (.cells (encP p T ⟨da, dn, dc⟩ ⟨ga, gn, gc⟩ ⟨xa, xn, xc⟩).toArray 35)).alloc (.cells (encP zeroP { data := #[] } Vc.nil Vc.nil Vc.nil).toArray 35) := ⟨_, rfl⟩
  have hz : B1.heap.size = w.heap.size + 2 := by rw [hB1]; simp
  have G1 : Grw (w.alloc (.cells (encP p T ⟨da, dn, dc⟩ ⟨ga, gn, gc⟩ ⟨xa, xn, xc⟩).toArray 35)) B1 := by rw [hB1]; exact (Grw.refl _).alloc _
  have OB := (Own.new w 35 (encP p T ⟨da, dn, dc⟩ ⟨ga, gn, gc⟩ ⟨xa, xn, xc⟩).toArray).below G1.below (by simp)
  rw [← hB1] at S0
  have c0 : B1.cell? ⟨w.heap.size, 0, none⟩ = some (.int .i64 3) := by rw [← hk]; exact OB.at_ 0 _ rfl
  have c1 : B1.cell? ⟨w.heap.size, 1, none⟩ = some (.int .i64 p.frm) := OB.at_ 1 _ rfl
  have c2 : B1.cell? ⟨w.heap.size, 2, none⟩ = some (.int .i64 p.to) := OB.at_ 2 _ rfl
  have ON := Own.new B1 35 (encP zeroP { data := #[] } Vc.nil Vc.nil Vc.nil).toArray
  rw [hz] at ON
  have HK := Lib.hid hk
  have HB := Lib.hid hB1
  have HS := Lib.hid S0
  clear hk hB1 S0 G1 OB
  rw [show (encP p T ⟨da, dn, dc⟩ ⟨ga, gn, gc⟩ ⟨xa, xn, xc⟩).toArray = #[.int .i64 p.kind, .int .i64 p.frm, .int .i64 p.to, .int .u64 (p.conf.e : Int), .int .i64 p.conf.r, .int .i64 p.m.f, .int .u32 (p.m.q : Int), .int .u64 (p.m.s : Int), .int .i64 p.m.v, .slice da dn dc, .string T, .int .u64 (p.stamp : Int), .int .u32 (p.sent : Int), .slice ga gn gc, .int .u64 (p.hor : Int), .int .i64 p.whom, .int .u32 (p.seq : Int), .int .u64 (p.mem : Int), .int .u64 (p.prom.e : Int), .int .i64 p.prom.r, .int .u64 (p.epoch : Int), .slice xa xn xc] from rfl]
  go_enter Try.func15, Try.ntmps15
  go_upto_region 1 with fail
  rw [show ((w.alloc (.cells #[.int .i64 p.kind, .int .i64 p.frm, .int .i64 p.to, .int .u64 (p.conf.e : Int), .int .i64 p.conf.r, .int .i64 p.m.f, .int .u32 (p.m.q : Int), .int .u64 (p.m.s : Int), .int .i64 p.m.v, .slice da dn dc, .string T, .int .u64 (p.stamp : Int), .int .u32 (p.sent : Int), .slice ga gn gc, .int .u64 (p.hor : Int), .int .i64 p.whom, .int .u32 (p.seq : Int), .int .u64 (p.mem : Int), .int .u64 (p.prom.e : Int), .int .i64 p.prom.r, .int .u64 (p.epoch : Int), .slice xa xn xc] 35)).alloc (.cells #[.int .i64 0, .int .i64 0, .int .i64 0, .int .u64 0, .int .i64 0, .int .i64 0, .int .u32 0, .int .u64 0, .int .i64 0, .slice none 0 0, .string { data := #[] }, .int .u64 0, .int .u32 0, .slice none 0 0, .int .u64 0, .int .i64 0, .int .u32 0, .int .u64 0, .int .u64 0, .int .i64 0, .int .u64 0, .slice none 0 0] 35)) = B1 from HB.out.symm]
  go_upto_region 2 with (refine store_packet (p := baseP 3 p.frm p.to) (T := { data := #[] }) (vd := Vc.nil) (vg := Vc.nil) (vx := Vc.nil) rfl (.tmp 3) (.tmp 11) rfl (w.heap.size + 2) rfl rfl ON ?_)
  have S1 := HS.out.shared
  clear HS c0 c1 c2 ON
  generalize hW1 : ((B1.alloc (.cells (encP zeroP { data := #[] } Vc.nil Vc.nil Vc.nil).toArray 35)).setRow (w.heap.size + 2) (encP (baseP 3 p.frm p.to) { data := #[] } Vc.nil Vc.nil Vc.nil).toArray) = W1 at S1
  rw [show ((B1.alloc (.cells #[.int .i64 0, .int .i64 0, .int .i64 0, .int .u64 0, .int .i64 0, .int .i64 0, .int .u32 0, .int .u64 0, .int .i64 0, .slice none 0 0, .string { data := #[] }, .int .u64 0, .int .u32 0, .slice none 0 0, .int .u64 0, .int .i64 0, .int .u32 0, .int .u64 0, .int .u64 0, .int .i64 0, .int .u64 0, .slice none 0 0] 35)).setRow (w.heap.size + 2) (encP (baseP 3 p.frm p.to) { data := #[] } Vc.nil Vc.nil Vc.nil).toArray) = W1 from hW1]
  clear hW1 HB hz
  obtain ⟨g, hg⟩ : ∃ g, g = w.heap.size + 2 := ⟨_, rfl⟩
  rw [← hg] at S1
  rw [← hg]
  have hne : g ≠ w.heap.size := by omega
  have hne2 : w.heap.size ≠ g := by omega
  clear hg B1
  have c0 : W1.cell? ⟨w.heap.size, 0, none⟩ = some (.int .i64 3) := by rw [← HK.out]; exact S1.box.at_ 0 _ rfl
  have c3 : W1.cell? ⟨w.heap.size, 3, none⟩ = some (.int .u64 (p.conf.e : Int)) := S1.box.at_ 3 _ rfl
  have c4 : W1.cell? ⟨w.heap.size, 4, none⟩ = some (.int .i64 p.conf.r) := S1.box.at_ 4 _ rfl
  have d3 : W1.cell? ⟨g, 3, none⟩ = some (.int .u64 0) := S1.row.at_ 3 _ rfl
  have f3 := S1.row.free 3
  have d4 : W1.cell? ⟨g, 4, none⟩ = some (.int .i64 0) := S1.row.at_ 4 _ rfl
  have f4 := S1.row.free 4
  go_upto_region 4 with fail
  go_wp2_with fail
  refine (row_3 W1).mono ?_
  rintro e w2 ⟨rfl, rfl⟩
  rw [show rowS 3 = { data := #[99, 119, 113] } from rfl]
  go_upto_region 6 with fail
  have S2 := (S1.set 3 (.int .u64 (p.conf.e : Int)) (q' := { baseP 3 p.frm p.to with conf := ⟨p.conf.e, 0⟩ }) (T2 := { data := #[] }) (sd := Vc.nil) (sg := Vc.nil) (sx := Vc.nil) rfl).set 4 (.int .i64 p.conf.r) (q' := { baseP 3 p.frm p.to with conf := p.conf }) (T2 := { data := #[] }) (sd := Vc.nil) (sg := Vc.nil) (sx := Vc.nil) rfl
  generalize ((W1.setCell ⟨g, 3, none⟩ (.int .u64 (p.conf.e : Int))).setCell ⟨g, 4, none⟩ (.int .i64 p.conf.r)) = W2 at *
  clear S1 c0 c3 c4 d3 d4 f3 f4
  have c15 : W2.cell? ⟨w.heap.size, 15, none⟩ = some (.int .i64 p.whom) := S2.box.at_ 15 _ rfl
  have c16 : W2.cell? ⟨w.heap.size, 16, none⟩ = some (.int .u32 (p.seq : Int)) := S2.box.at_ 16 _ rfl
  have d15 : W2.cell? ⟨g, 15, none⟩ = some (.int .i64 0) := S2.row.at_ 15 _ rfl
  have f15 := S2.row.free 15
  have d16 : W2.cell? ⟨g, 16, none⟩ = some (.int .u32 0) := S2.row.at_ 16 _ rfl
  have f16 := S2.row.free 16
  have hb : ∀ w : World, Calls Try.prog 38 #[.string { data := #[99, 119, 113] }, .int .u8 98] w fun e w' => e = .returned (.bool false) ∧ w = w' := fun w => has_at { data := #[99, 119, 113] } 98 false (by decide) (by decide) (by decide) w
  have hl : ∀ w : World, Calls Try.prog 38 #[.string { data := #[99, 119, 113] }, .int .u8 108] w fun e w' => e = .returned (.bool false) ∧ w = w' := fun w => has_at { data := #[99, 119, 113] } 108 false (by decide) (by decide) (by decide) w
  have hm : ∀ w : World, Calls Try.prog 38 #[.string { data := #[99, 119, 113] }, .int .u8 109] w fun e w' => e = .returned (.bool false) ∧ w = w' := fun w => has_at { data := #[99, 119, 113] } 109 false (by decide) (by decide) (by decide) w
  have hp : ∀ w : World, Calls Try.prog 38 #[.string { data := #[99, 119, 113] }, .int .u8 112] w fun e w' => e = .returned (.bool false) ∧ w = w' := fun w => has_at { data := #[99, 119, 113] } 112 false (by decide) (by decide) (by decide) w
  have hq : ∀ w : World, Calls Try.prog 38 #[.string { data := #[99, 119, 113] }, .int .u8 113] w fun e w' => e = .returned (.bool true) ∧ w = w' := fun w => has_at { data := #[99, 119, 113] } 113 true (by decide) (by decide) (by decide) w
  have hs : ∀ w : World, Calls Try.prog 38 #[.string { data := #[99, 119, 113] }, .int .u8 115] w fun e w' => e = .returned (.bool false) ∧ w = w' := fun w => has_at { data := #[99, 119, 113] } 115 false (by decide) (by decide) (by decide) w
  have hw : ∀ w : World, Calls Try.prog 38 #[.string { data := #[99, 119, 113] }, .int .u8 119] w fun e w' => e = .returned (.bool true) ∧ w = w' := fun w => has_at { data := #[99, 119, 113] } 119 true (by decide) (by decide) (by decide) w
  have hx : ∀ w : World, Calls Try.prog 38 #[.string { data := #[99, 119, 113] }, .int .u8 120] w fun e w' => e = .returned (.bool false) ∧ w = w' := fun w => has_at { data := #[99, 119, 113] } 120 false (by decide) (by decide) (by decide) w
  go_upto_region 27 with (go_at_call 38; (first | (with_reducible refine (hb _).mono ?_) | (with_reducible refine (hl _).mono ?_) | (with_reducible refine (hm _).mono ?_) | (with_reducible refine (hp _).mono ?_) | (with_reducible refine (hq _).mono ?_) | (with_reducible refine (hs _).mono ?_) | (with_reducible refine (hw _).mono ?_) | (with_reducible refine (hx _).mono ?_)); rintro e w' ⟨rfl, rfl⟩)
  have U1 := S2.set 15 (.int .i64 p.whom) (q' := { baseP 3 p.frm p.to with conf := p.conf, whom := p.whom }) (T2 := { data := #[] }) (sd := Vc.nil) (sg := Vc.nil) (sx := Vc.nil) rfl
  have U2 := U1.set 16 (.int .u32 (p.seq : Int)) (q' := { baseP 3 p.frm p.to with conf := p.conf, whom := p.whom, seq := p.seq }) (T2 := { data := #[] }) (sd := Vc.nil) (sg := Vc.nil) (sx := Vc.nil) rfl
  have HE : Hid (cleanP p = { baseP 3 p.frm p.to with conf := p.conf, whom := p.whom, seq := p.seq }) := Lib.hid (by unfold cleanP; rw [show rowP p = [.c, .w, .q] from by unfold rowP; rw [HK.out]; rfl, HK.out]; rfl)
  have SZ := U2
  go_wp2_with (first | (refine load_packet rfl (.tmp 3) rfl g rfl SZ.row ?_) | (refine store_packet rfl (.tmp 2) (.tmp 88) rfl (w.heap.size + 1) rfl rfl SZ.res ?_))
  (try simp only [Exit.inBlock, Exit.then])
  refine bodyPost_ret (results_packet rfl _ _ (w.heap.size + 1) rfl (SZ.res.row _)) rfl ?_
  exact SZ.done HE.out ⟨rfl, (OwnVec.nil 0 w).at_, (OwnVec.nil 0 w).at_, (OwnXs.nil 0 w).at_⟩
end Go.Proofs.Ytgkddjapcdjalaa

/- The document's Clean: kind 4. (Written by wip/gen_refclean.py.) -/
set_option linter.unusedVariables false
set_option linter.unusedSimpArgs false
namespace Go.Proofs.Ytgkddjapcdjalaa
open Go.RowKit Go.Sort

set_option maxHeartbeats 4000000 in
set_option maxRecDepth 100000 in
theorem rclean_4 (w : World) (p : Pk) (T : ByteArray) (vd vg vx : Vc) (ht : PkAt w p T vd vg vx) (hsm : Small p) (hk : p.kind = 4) :
    Calls Try.prog 15 #[.agg (encP p T vd vg vx).toArray] w (RcPost w p) := by
  obtain ⟨da, dn, dc⟩ := vd
  obtain ⟨ga, gn, gc⟩ := vg
  obtain ⟨xa, xn, xc⟩ := vx
  have S0 := CSt.new (w := w) p T ⟨da, dn, dc⟩ ⟨ga, gn, gc⟩ ⟨xa, xn, xc⟩ 4 p.frm p.to
  have hd : dn ≤ 1048576 := by have := ht.deps.len; simp only at this; rw [← this]; exact hsm.deps
  have hgn : gn ≤ 1048576 := by have := ht.got.len; simp only at this; rw [← this]; exact hsm.got
  have hxn : xn ≤ 1048576 := by have := ht.xs.len; simp only at this; rw [← this]; exact hsm.xs
  have hT : T.size ≤ 1048576 := by rw [size_text ht.text]; exact hsm.text
  have HC : Hid (∀ x ∈ p.x, x.cnt.length ≤ 1048576) := Lib.hid hsm.cnt
  have HT := Lib.hid ht
  clear ht hsm
  obtain ⟨B1, hB1⟩ : ∃ B1, B1 = (w.alloc (.cells (encP p T ⟨da, dn, dc⟩ ⟨ga, gn, gc⟩ ⟨xa, xn, xc⟩).toArray 35)).alloc (.cells (encP zeroP { data := #[] } Vc.nil Vc.nil Vc.nil).toArray 35) := ⟨_, rfl⟩
  have hz : B1.heap.size = w.heap.size + 2 := by rw [hB1]; simp
  have G1 : Grw (w.alloc (.cells (encP p T ⟨da, dn, dc⟩ ⟨ga, gn, gc⟩ ⟨xa, xn, xc⟩).toArray 35)) B1 := by rw [hB1]; exact (Grw.refl _).alloc _
  have OB := (Own.new w 35 (encP p T ⟨da, dn, dc⟩ ⟨ga, gn, gc⟩ ⟨xa, xn, xc⟩).toArray).below G1.below (by simp)
  rw [← hB1] at S0
  have c0 : B1.cell? ⟨w.heap.size, 0, none⟩ = some (.int .i64 4) := by rw [← hk]; exact OB.at_ 0 _ rfl
  have c1 : B1.cell? ⟨w.heap.size, 1, none⟩ = some (.int .i64 p.frm) := OB.at_ 1 _ rfl
  have c2 : B1.cell? ⟨w.heap.size, 2, none⟩ = some (.int .i64 p.to) := OB.at_ 2 _ rfl
  have ON := Own.new B1 35 (encP zeroP { data := #[] } Vc.nil Vc.nil Vc.nil).toArray
  rw [hz] at ON
  have HK := Lib.hid hk
  have HB := Lib.hid hB1
  have HS := Lib.hid S0
  clear hk hB1 S0 G1 OB
  rw [show (encP p T ⟨da, dn, dc⟩ ⟨ga, gn, gc⟩ ⟨xa, xn, xc⟩).toArray = #[.int .i64 p.kind, .int .i64 p.frm, .int .i64 p.to, .int .u64 (p.conf.e : Int), .int .i64 p.conf.r, .int .i64 p.m.f, .int .u32 (p.m.q : Int), .int .u64 (p.m.s : Int), .int .i64 p.m.v, .slice da dn dc, .string T, .int .u64 (p.stamp : Int), .int .u32 (p.sent : Int), .slice ga gn gc, .int .u64 (p.hor : Int), .int .i64 p.whom, .int .u32 (p.seq : Int), .int .u64 (p.mem : Int), .int .u64 (p.prom.e : Int), .int .i64 p.prom.r, .int .u64 (p.epoch : Int), .slice xa xn xc] from rfl]
  go_enter Try.func15, Try.ntmps15
  go_upto_region 1 with fail
  rw [show ((w.alloc (.cells #[.int .i64 p.kind, .int .i64 p.frm, .int .i64 p.to, .int .u64 (p.conf.e : Int), .int .i64 p.conf.r, .int .i64 p.m.f, .int .u32 (p.m.q : Int), .int .u64 (p.m.s : Int), .int .i64 p.m.v, .slice da dn dc, .string T, .int .u64 (p.stamp : Int), .int .u32 (p.sent : Int), .slice ga gn gc, .int .u64 (p.hor : Int), .int .i64 p.whom, .int .u32 (p.seq : Int), .int .u64 (p.mem : Int), .int .u64 (p.prom.e : Int), .int .i64 p.prom.r, .int .u64 (p.epoch : Int), .slice xa xn xc] 35)).alloc (.cells #[.int .i64 0, .int .i64 0, .int .i64 0, .int .u64 0, .int .i64 0, .int .i64 0, .int .u32 0, .int .u64 0, .int .i64 0, .slice none 0 0, .string { data := #[] }, .int .u64 0, .int .u32 0, .slice none 0 0, .int .u64 0, .int .i64 0, .int .u32 0, .int .u64 0, .int .u64 0, .int .i64 0, .int .u64 0, .slice none 0 0] 35)) = B1 from HB.out.symm]
  go_upto_region 2 with (refine store_packet (p := baseP 4 p.frm p.to) (T := { data := #[] }) (vd := Vc.nil) (vg := Vc.nil) (vx := Vc.nil) rfl (.tmp 3) (.tmp 11) rfl (w.heap.size + 2) rfl rfl ON ?_)
  have S1 := HS.out.shared
  clear HS c0 c1 c2 ON
  generalize hW1 : ((B1.alloc (.cells (encP zeroP { data := #[] } Vc.nil Vc.nil Vc.nil).toArray 35)).setRow (w.heap.size + 2) (encP (baseP 4 p.frm p.to) { data := #[] } Vc.nil Vc.nil Vc.nil).toArray) = W1 at S1
  rw [show ((B1.alloc (.cells #[.int .i64 0, .int .i64 0, .int .i64 0, .int .u64 0, .int .i64 0, .int .i64 0, .int .u32 0, .int .u64 0, .int .i64 0, .slice none 0 0, .string { data := #[] }, .int .u64 0, .int .u32 0, .slice none 0 0, .int .u64 0, .int .i64 0, .int .u32 0, .int .u64 0, .int .u64 0, .int .i64 0, .int .u64 0, .slice none 0 0] 35)).setRow (w.heap.size + 2) (encP (baseP 4 p.frm p.to) { data := #[] } Vc.nil Vc.nil Vc.nil).toArray) = W1 from hW1]
  clear hW1 HB hz
  obtain ⟨g, hg⟩ : ∃ g, g = w.heap.size + 2 := ⟨_, rfl⟩
  rw [← hg] at S1
  rw [← hg]
  have hne : g ≠ w.heap.size := by omega
  have hne2 : w.heap.size ≠ g := by omega
  clear hg B1
  have c0 : W1.cell? ⟨w.heap.size, 0, none⟩ = some (.int .i64 4) := by rw [← HK.out]; exact S1.box.at_ 0 _ rfl
  have c3 : W1.cell? ⟨w.heap.size, 3, none⟩ = some (.int .u64 (p.conf.e : Int)) := S1.box.at_ 3 _ rfl
  have c4 : W1.cell? ⟨w.heap.size, 4, none⟩ = some (.int .i64 p.conf.r) := S1.box.at_ 4 _ rfl
  have d3 : W1.cell? ⟨g, 3, none⟩ = some (.int .u64 0) := S1.row.at_ 3 _ rfl
  have f3 := S1.row.free 3
  have d4 : W1.cell? ⟨g, 4, none⟩ = some (.int .i64 0) := S1.row.at_ 4 _ rfl
  have f4 := S1.row.free 4
  go_upto_region 4 with fail
  go_wp2_with fail
  refine (row_4 W1).mono ?_
  rintro e w2 ⟨rfl, rfl⟩
  rw [show rowS 4 = { data := #[99, 112, 101, 98] } from rfl]
  go_upto_region 6 with fail
  have S2 := (S1.set 3 (.int .u64 (p.conf.e : Int)) (q' := { baseP 4 p.frm p.to with conf := ⟨p.conf.e, 0⟩ }) (T2 := { data := #[] }) (sd := Vc.nil) (sg := Vc.nil) (sx := Vc.nil) rfl).set 4 (.int .i64 p.conf.r) (q' := { baseP 4 p.frm p.to with conf := p.conf }) (T2 := { data := #[] }) (sd := Vc.nil) (sg := Vc.nil) (sx := Vc.nil) rfl
  generalize ((W1.setCell ⟨g, 3, none⟩ (.int .u64 (p.conf.e : Int))).setCell ⟨g, 4, none⟩ (.int .i64 p.conf.r)) = W2 at *
  clear S1 c0 c3 c4 d3 d4 f3 f4
  have c17 : W2.cell? ⟨w.heap.size, 17, none⟩ = some (.int .u64 (p.mem : Int)) := S2.box.at_ 17 _ rfl
  have c18 : W2.cell? ⟨w.heap.size, 18, none⟩ = some (.int .u64 (p.prom.e : Int)) := S2.box.at_ 18 _ rfl
  have c19 : W2.cell? ⟨w.heap.size, 19, none⟩ = some (.int .i64 p.prom.r) := S2.box.at_ 19 _ rfl
  have c20 : W2.cell? ⟨w.heap.size, 20, none⟩ = some (.int .u64 (p.epoch : Int)) := S2.box.at_ 20 _ rfl
  have d17 : W2.cell? ⟨g, 17, none⟩ = some (.int .u64 0) := S2.row.at_ 17 _ rfl
  have f17 := S2.row.free 17
  have d18 : W2.cell? ⟨g, 18, none⟩ = some (.int .u64 0) := S2.row.at_ 18 _ rfl
  have f18 := S2.row.free 18
  have d19 : W2.cell? ⟨g, 19, none⟩ = some (.int .i64 0) := S2.row.at_ 19 _ rfl
  have f19 := S2.row.free 19
  have d20 : W2.cell? ⟨g, 20, none⟩ = some (.int .u64 0) := S2.row.at_ 20 _ rfl
  have f20 := S2.row.free 20
  have hb : ∀ w : World, Calls Try.prog 38 #[.string { data := #[99, 112, 101, 98] }, .int .u8 98] w fun e w' => e = .returned (.bool true) ∧ w = w' := fun w => has_at { data := #[99, 112, 101, 98] } 98 true (by decide) (by decide) (by decide) w
  have hl : ∀ w : World, Calls Try.prog 38 #[.string { data := #[99, 112, 101, 98] }, .int .u8 108] w fun e w' => e = .returned (.bool false) ∧ w = w' := fun w => has_at { data := #[99, 112, 101, 98] } 108 false (by decide) (by decide) (by decide) w
  have hm : ∀ w : World, Calls Try.prog 38 #[.string { data := #[99, 112, 101, 98] }, .int .u8 109] w fun e w' => e = .returned (.bool false) ∧ w = w' := fun w => has_at { data := #[99, 112, 101, 98] } 109 false (by decide) (by decide) (by decide) w
  have hp : ∀ w : World, Calls Try.prog 38 #[.string { data := #[99, 112, 101, 98] }, .int .u8 112] w fun e w' => e = .returned (.bool true) ∧ w = w' := fun w => has_at { data := #[99, 112, 101, 98] } 112 true (by decide) (by decide) (by decide) w
  have hq : ∀ w : World, Calls Try.prog 38 #[.string { data := #[99, 112, 101, 98] }, .int .u8 113] w fun e w' => e = .returned (.bool false) ∧ w = w' := fun w => has_at { data := #[99, 112, 101, 98] } 113 false (by decide) (by decide) (by decide) w
  have hs : ∀ w : World, Calls Try.prog 38 #[.string { data := #[99, 112, 101, 98] }, .int .u8 115] w fun e w' => e = .returned (.bool false) ∧ w = w' := fun w => has_at { data := #[99, 112, 101, 98] } 115 false (by decide) (by decide) (by decide) w
  have hw : ∀ w : World, Calls Try.prog 38 #[.string { data := #[99, 112, 101, 98] }, .int .u8 119] w fun e w' => e = .returned (.bool false) ∧ w = w' := fun w => has_at { data := #[99, 112, 101, 98] } 119 false (by decide) (by decide) (by decide) w
  have hx : ∀ w : World, Calls Try.prog 38 #[.string { data := #[99, 112, 101, 98] }, .int .u8 120] w fun e w' => e = .returned (.bool false) ∧ w = w' := fun w => has_at { data := #[99, 112, 101, 98] } 120 false (by decide) (by decide) (by decide) w
  go_upto_region 27 with (go_at_call 38; (first | (with_reducible refine (hb _).mono ?_) | (with_reducible refine (hl _).mono ?_) | (with_reducible refine (hm _).mono ?_) | (with_reducible refine (hp _).mono ?_) | (with_reducible refine (hq _).mono ?_) | (with_reducible refine (hs _).mono ?_) | (with_reducible refine (hw _).mono ?_) | (with_reducible refine (hx _).mono ?_)); rintro e w' ⟨rfl, rfl⟩)
  have U1 := S2.set 18 (.int .u64 (p.prom.e : Int)) (q' := { baseP 4 p.frm p.to with conf := p.conf, prom := ⟨p.prom.e, 0⟩ }) (T2 := { data := #[] }) (sd := Vc.nil) (sg := Vc.nil) (sx := Vc.nil) rfl
  have U2 := U1.set 19 (.int .i64 p.prom.r) (q' := { baseP 4 p.frm p.to with conf := p.conf, prom := p.prom }) (T2 := { data := #[] }) (sd := Vc.nil) (sg := Vc.nil) (sx := Vc.nil) rfl
  have U3 := U2.set 20 (.int .u64 (p.epoch : Int)) (q' := { baseP 4 p.frm p.to with conf := p.conf, prom := p.prom, epoch := p.epoch }) (T2 := { data := #[] }) (sd := Vc.nil) (sg := Vc.nil) (sx := Vc.nil) rfl
  have U4 := U3.set 17 (.int .u64 (p.mem : Int)) (q' := { baseP 4 p.frm p.to with conf := p.conf, prom := p.prom, epoch := p.epoch, mem := p.mem }) (T2 := { data := #[] }) (sd := Vc.nil) (sg := Vc.nil) (sx := Vc.nil) rfl
  have HE : Hid (cleanP p = { baseP 4 p.frm p.to with conf := p.conf, prom := p.prom, epoch := p.epoch, mem := p.mem }) := Lib.hid (by unfold cleanP; rw [show rowP p = [.c, .p, .e, .b] from by unfold rowP; rw [HK.out]; rfl, HK.out]; rfl)
  have SZ := U4
  go_wp2_with (first | (refine load_packet rfl (.tmp 3) rfl g rfl SZ.row ?_) | (refine store_packet rfl (.tmp 2) (.tmp 88) rfl (w.heap.size + 1) rfl rfl SZ.res ?_))
  (try simp only [Exit.inBlock, Exit.then])
  refine bodyPost_ret (results_packet rfl _ _ (w.heap.size + 1) rfl (SZ.res.row _)) rfl ?_
  exact SZ.done HE.out ⟨rfl, (OwnVec.nil 0 w).at_, (OwnVec.nil 0 w).at_, (OwnXs.nil 0 w).at_⟩
end Go.Proofs.Ytgkddjapcdjalaa

/- The document's Clean: kind 5. (Written by wip/gen_refclean.py.) -/
set_option linter.unusedVariables false
set_option linter.unusedSimpArgs false
namespace Go.Proofs.Ytgkddjapcdjalaa
open Go.RowKit Go.Sort

set_option maxHeartbeats 4000000 in
set_option maxRecDepth 100000 in
theorem rclean_5 (w : World) (p : Pk) (T : ByteArray) (vd vg vx : Vc) (ht : PkAt w p T vd vg vx) (hsm : Small p) (hk : p.kind = 5) :
    Calls Try.prog 15 #[.agg (encP p T vd vg vx).toArray] w (RcPost w p) := by
  obtain ⟨da, dn, dc⟩ := vd
  obtain ⟨ga, gn, gc⟩ := vg
  obtain ⟨xa, xn, xc⟩ := vx
  have S0 := CSt.new (w := w) p T ⟨da, dn, dc⟩ ⟨ga, gn, gc⟩ ⟨xa, xn, xc⟩ 5 p.frm p.to
  have hd : dn ≤ 1048576 := by have := ht.deps.len; simp only at this; rw [← this]; exact hsm.deps
  have hgn : gn ≤ 1048576 := by have := ht.got.len; simp only at this; rw [← this]; exact hsm.got
  have hxn : xn ≤ 1048576 := by have := ht.xs.len; simp only at this; rw [← this]; exact hsm.xs
  have hT : T.size ≤ 1048576 := by rw [size_text ht.text]; exact hsm.text
  have HC : Hid (∀ x ∈ p.x, x.cnt.length ≤ 1048576) := Lib.hid hsm.cnt
  have HT := Lib.hid ht
  clear ht hsm
  obtain ⟨B1, hB1⟩ : ∃ B1, B1 = (w.alloc (.cells (encP p T ⟨da, dn, dc⟩ ⟨ga, gn, gc⟩ ⟨xa, xn, xc⟩).toArray 35)).alloc (.cells (encP zeroP { data := #[] } Vc.nil Vc.nil Vc.nil).toArray 35) := ⟨_, rfl⟩
  have hz : B1.heap.size = w.heap.size + 2 := by rw [hB1]; simp
  have G1 : Grw (w.alloc (.cells (encP p T ⟨da, dn, dc⟩ ⟨ga, gn, gc⟩ ⟨xa, xn, xc⟩).toArray 35)) B1 := by rw [hB1]; exact (Grw.refl _).alloc _
  have OB := (Own.new w 35 (encP p T ⟨da, dn, dc⟩ ⟨ga, gn, gc⟩ ⟨xa, xn, xc⟩).toArray).below G1.below (by simp)
  rw [← hB1] at S0
  have c0 : B1.cell? ⟨w.heap.size, 0, none⟩ = some (.int .i64 5) := by rw [← hk]; exact OB.at_ 0 _ rfl
  have c1 : B1.cell? ⟨w.heap.size, 1, none⟩ = some (.int .i64 p.frm) := OB.at_ 1 _ rfl
  have c2 : B1.cell? ⟨w.heap.size, 2, none⟩ = some (.int .i64 p.to) := OB.at_ 2 _ rfl
  have ON := Own.new B1 35 (encP zeroP { data := #[] } Vc.nil Vc.nil Vc.nil).toArray
  rw [hz] at ON
  have HK := Lib.hid hk
  have HB := Lib.hid hB1
  have HS := Lib.hid S0
  clear hk hB1 S0 G1 OB
  rw [show (encP p T ⟨da, dn, dc⟩ ⟨ga, gn, gc⟩ ⟨xa, xn, xc⟩).toArray = #[.int .i64 p.kind, .int .i64 p.frm, .int .i64 p.to, .int .u64 (p.conf.e : Int), .int .i64 p.conf.r, .int .i64 p.m.f, .int .u32 (p.m.q : Int), .int .u64 (p.m.s : Int), .int .i64 p.m.v, .slice da dn dc, .string T, .int .u64 (p.stamp : Int), .int .u32 (p.sent : Int), .slice ga gn gc, .int .u64 (p.hor : Int), .int .i64 p.whom, .int .u32 (p.seq : Int), .int .u64 (p.mem : Int), .int .u64 (p.prom.e : Int), .int .i64 p.prom.r, .int .u64 (p.epoch : Int), .slice xa xn xc] from rfl]
  go_enter Try.func15, Try.ntmps15
  go_upto_region 1 with fail
  rw [show ((w.alloc (.cells #[.int .i64 p.kind, .int .i64 p.frm, .int .i64 p.to, .int .u64 (p.conf.e : Int), .int .i64 p.conf.r, .int .i64 p.m.f, .int .u32 (p.m.q : Int), .int .u64 (p.m.s : Int), .int .i64 p.m.v, .slice da dn dc, .string T, .int .u64 (p.stamp : Int), .int .u32 (p.sent : Int), .slice ga gn gc, .int .u64 (p.hor : Int), .int .i64 p.whom, .int .u32 (p.seq : Int), .int .u64 (p.mem : Int), .int .u64 (p.prom.e : Int), .int .i64 p.prom.r, .int .u64 (p.epoch : Int), .slice xa xn xc] 35)).alloc (.cells #[.int .i64 0, .int .i64 0, .int .i64 0, .int .u64 0, .int .i64 0, .int .i64 0, .int .u32 0, .int .u64 0, .int .i64 0, .slice none 0 0, .string { data := #[] }, .int .u64 0, .int .u32 0, .slice none 0 0, .int .u64 0, .int .i64 0, .int .u32 0, .int .u64 0, .int .u64 0, .int .i64 0, .int .u64 0, .slice none 0 0] 35)) = B1 from HB.out.symm]
  go_upto_region 2 with (refine store_packet (p := baseP 5 p.frm p.to) (T := { data := #[] }) (vd := Vc.nil) (vg := Vc.nil) (vx := Vc.nil) rfl (.tmp 3) (.tmp 11) rfl (w.heap.size + 2) rfl rfl ON ?_)
  have S1 := HS.out.shared
  clear HS c0 c1 c2 ON
  generalize hW1 : ((B1.alloc (.cells (encP zeroP { data := #[] } Vc.nil Vc.nil Vc.nil).toArray 35)).setRow (w.heap.size + 2) (encP (baseP 5 p.frm p.to) { data := #[] } Vc.nil Vc.nil Vc.nil).toArray) = W1 at S1
  rw [show ((B1.alloc (.cells #[.int .i64 0, .int .i64 0, .int .i64 0, .int .u64 0, .int .i64 0, .int .i64 0, .int .u32 0, .int .u64 0, .int .i64 0, .slice none 0 0, .string { data := #[] }, .int .u64 0, .int .u32 0, .slice none 0 0, .int .u64 0, .int .i64 0, .int .u32 0, .int .u64 0, .int .u64 0, .int .i64 0, .int .u64 0, .slice none 0 0] 35)).setRow (w.heap.size + 2) (encP (baseP 5 p.frm p.to) { data := #[] } Vc.nil Vc.nil Vc.nil).toArray) = W1 from hW1]
  clear hW1 HB hz
  obtain ⟨g, hg⟩ : ∃ g, g = w.heap.size + 2 := ⟨_, rfl⟩
  rw [← hg] at S1
  rw [← hg]
  have hne : g ≠ w.heap.size := by omega
  have hne2 : w.heap.size ≠ g := by omega
  clear hg B1
  have c0 : W1.cell? ⟨w.heap.size, 0, none⟩ = some (.int .i64 5) := by rw [← HK.out]; exact S1.box.at_ 0 _ rfl
  have c3 : W1.cell? ⟨w.heap.size, 3, none⟩ = some (.int .u64 (p.conf.e : Int)) := S1.box.at_ 3 _ rfl
  have c4 : W1.cell? ⟨w.heap.size, 4, none⟩ = some (.int .i64 p.conf.r) := S1.box.at_ 4 _ rfl
  have d3 : W1.cell? ⟨g, 3, none⟩ = some (.int .u64 0) := S1.row.at_ 3 _ rfl
  have f3 := S1.row.free 3
  have d4 : W1.cell? ⟨g, 4, none⟩ = some (.int .i64 0) := S1.row.at_ 4 _ rfl
  have f4 := S1.row.free 4
  go_upto_region 4 with fail
  go_wp2_with fail
  refine (row_5 W1).mono ?_
  rintro e w2 ⟨rfl, rfl⟩
  rw [show rowS 5 = { data := #[99, 98] } from rfl]
  go_upto_region 6 with fail
  have S2 := (S1.set 3 (.int .u64 (p.conf.e : Int)) (q' := { baseP 5 p.frm p.to with conf := ⟨p.conf.e, 0⟩ }) (T2 := { data := #[] }) (sd := Vc.nil) (sg := Vc.nil) (sx := Vc.nil) rfl).set 4 (.int .i64 p.conf.r) (q' := { baseP 5 p.frm p.to with conf := p.conf }) (T2 := { data := #[] }) (sd := Vc.nil) (sg := Vc.nil) (sx := Vc.nil) rfl
  generalize ((W1.setCell ⟨g, 3, none⟩ (.int .u64 (p.conf.e : Int))).setCell ⟨g, 4, none⟩ (.int .i64 p.conf.r)) = W2 at *
  clear S1 c0 c3 c4 d3 d4 f3 f4
  have c17 : W2.cell? ⟨w.heap.size, 17, none⟩ = some (.int .u64 (p.mem : Int)) := S2.box.at_ 17 _ rfl
  have d17 : W2.cell? ⟨g, 17, none⟩ = some (.int .u64 0) := S2.row.at_ 17 _ rfl
  have f17 := S2.row.free 17
  have hb : ∀ w : World, Calls Try.prog 38 #[.string { data := #[99, 98] }, .int .u8 98] w fun e w' => e = .returned (.bool true) ∧ w = w' := fun w => has_at { data := #[99, 98] } 98 true (by decide) (by decide) (by decide) w
  have hl : ∀ w : World, Calls Try.prog 38 #[.string { data := #[99, 98] }, .int .u8 108] w fun e w' => e = .returned (.bool false) ∧ w = w' := fun w => has_at { data := #[99, 98] } 108 false (by decide) (by decide) (by decide) w
  have hm : ∀ w : World, Calls Try.prog 38 #[.string { data := #[99, 98] }, .int .u8 109] w fun e w' => e = .returned (.bool false) ∧ w = w' := fun w => has_at { data := #[99, 98] } 109 false (by decide) (by decide) (by decide) w
  have hp : ∀ w : World, Calls Try.prog 38 #[.string { data := #[99, 98] }, .int .u8 112] w fun e w' => e = .returned (.bool false) ∧ w = w' := fun w => has_at { data := #[99, 98] } 112 false (by decide) (by decide) (by decide) w
  have hq : ∀ w : World, Calls Try.prog 38 #[.string { data := #[99, 98] }, .int .u8 113] w fun e w' => e = .returned (.bool false) ∧ w = w' := fun w => has_at { data := #[99, 98] } 113 false (by decide) (by decide) (by decide) w
  have hs : ∀ w : World, Calls Try.prog 38 #[.string { data := #[99, 98] }, .int .u8 115] w fun e w' => e = .returned (.bool false) ∧ w = w' := fun w => has_at { data := #[99, 98] } 115 false (by decide) (by decide) (by decide) w
  have hw : ∀ w : World, Calls Try.prog 38 #[.string { data := #[99, 98] }, .int .u8 119] w fun e w' => e = .returned (.bool false) ∧ w = w' := fun w => has_at { data := #[99, 98] } 119 false (by decide) (by decide) (by decide) w
  have hx : ∀ w : World, Calls Try.prog 38 #[.string { data := #[99, 98] }, .int .u8 120] w fun e w' => e = .returned (.bool false) ∧ w = w' := fun w => has_at { data := #[99, 98] } 120 false (by decide) (by decide) (by decide) w
  go_upto_region 27 with (go_at_call 38; (first | (with_reducible refine (hb _).mono ?_) | (with_reducible refine (hl _).mono ?_) | (with_reducible refine (hm _).mono ?_) | (with_reducible refine (hp _).mono ?_) | (with_reducible refine (hq _).mono ?_) | (with_reducible refine (hs _).mono ?_) | (with_reducible refine (hw _).mono ?_) | (with_reducible refine (hx _).mono ?_)); rintro e w' ⟨rfl, rfl⟩)
  have U1 := S2.set 17 (.int .u64 (p.mem : Int)) (q' := { baseP 5 p.frm p.to with conf := p.conf, mem := p.mem }) (T2 := { data := #[] }) (sd := Vc.nil) (sg := Vc.nil) (sx := Vc.nil) rfl
  have HE : Hid (cleanP p = { baseP 5 p.frm p.to with conf := p.conf, mem := p.mem }) := Lib.hid (by unfold cleanP; rw [show rowP p = [.c, .b] from by unfold rowP; rw [HK.out]; rfl, HK.out]; rfl)
  have SZ := U1
  go_wp2_with (first | (refine load_packet rfl (.tmp 3) rfl g rfl SZ.row ?_) | (refine store_packet rfl (.tmp 2) (.tmp 88) rfl (w.heap.size + 1) rfl rfl SZ.res ?_))
  (try simp only [Exit.inBlock, Exit.then])
  refine bodyPost_ret (results_packet rfl _ _ (w.heap.size + 1) rfl (SZ.res.row _)) rfl ?_
  exact SZ.done HE.out ⟨rfl, (OwnVec.nil 0 w).at_, (OwnVec.nil 0 w).at_, (OwnXs.nil 0 w).at_⟩
end Go.Proofs.Ytgkddjapcdjalaa

/- The document's Clean: kind 6. (Written by wip/gen_refclean.py.) -/
set_option linter.unusedVariables false
set_option linter.unusedSimpArgs false
namespace Go.Proofs.Ytgkddjapcdjalaa
open Go.RowKit Go.Sort

set_option maxHeartbeats 4000000 in
set_option maxRecDepth 100000 in
theorem rclean_6 (w : World) (p : Pk) (T : ByteArray) (vd vg vx : Vc) (ht : PkAt w p T vd vg vx) (hsm : Small p) (hk : p.kind = 6) :
    Calls Try.prog 15 #[.agg (encP p T vd vg vx).toArray] w (RcPost w p) := by
  obtain ⟨da, dn, dc⟩ := vd
  obtain ⟨ga, gn, gc⟩ := vg
  obtain ⟨xa, xn, xc⟩ := vx
  have S0 := CSt.new (w := w) p T ⟨da, dn, dc⟩ ⟨ga, gn, gc⟩ ⟨xa, xn, xc⟩ 6 p.frm p.to
  have hd : dn ≤ 1048576 := by have := ht.deps.len; simp only at this; rw [← this]; exact hsm.deps
  have hgn : gn ≤ 1048576 := by have := ht.got.len; simp only at this; rw [← this]; exact hsm.got
  have hxn : xn ≤ 1048576 := by have := ht.xs.len; simp only at this; rw [← this]; exact hsm.xs
  have hT : T.size ≤ 1048576 := by rw [size_text ht.text]; exact hsm.text
  have HC : Hid (∀ x ∈ p.x, x.cnt.length ≤ 1048576) := Lib.hid hsm.cnt
  have HT := Lib.hid ht
  clear ht hsm
  obtain ⟨B1, hB1⟩ : ∃ B1, B1 = (w.alloc (.cells (encP p T ⟨da, dn, dc⟩ ⟨ga, gn, gc⟩ ⟨xa, xn, xc⟩).toArray 35)).alloc (.cells (encP zeroP { data := #[] } Vc.nil Vc.nil Vc.nil).toArray 35) := ⟨_, rfl⟩
  have hz : B1.heap.size = w.heap.size + 2 := by rw [hB1]; simp
  have G1 : Grw (w.alloc (.cells (encP p T ⟨da, dn, dc⟩ ⟨ga, gn, gc⟩ ⟨xa, xn, xc⟩).toArray 35)) B1 := by rw [hB1]; exact (Grw.refl _).alloc _
  have OB := (Own.new w 35 (encP p T ⟨da, dn, dc⟩ ⟨ga, gn, gc⟩ ⟨xa, xn, xc⟩).toArray).below G1.below (by simp)
  rw [← hB1] at S0
  have c0 : B1.cell? ⟨w.heap.size, 0, none⟩ = some (.int .i64 6) := by rw [← hk]; exact OB.at_ 0 _ rfl
  have c1 : B1.cell? ⟨w.heap.size, 1, none⟩ = some (.int .i64 p.frm) := OB.at_ 1 _ rfl
  have c2 : B1.cell? ⟨w.heap.size, 2, none⟩ = some (.int .i64 p.to) := OB.at_ 2 _ rfl
  have ON := Own.new B1 35 (encP zeroP { data := #[] } Vc.nil Vc.nil Vc.nil).toArray
  rw [hz] at ON
  have HK := Lib.hid hk
  have HB := Lib.hid hB1
  have HS := Lib.hid S0
  clear hk hB1 S0 G1 OB
  rw [show (encP p T ⟨da, dn, dc⟩ ⟨ga, gn, gc⟩ ⟨xa, xn, xc⟩).toArray = #[.int .i64 p.kind, .int .i64 p.frm, .int .i64 p.to, .int .u64 (p.conf.e : Int), .int .i64 p.conf.r, .int .i64 p.m.f, .int .u32 (p.m.q : Int), .int .u64 (p.m.s : Int), .int .i64 p.m.v, .slice da dn dc, .string T, .int .u64 (p.stamp : Int), .int .u32 (p.sent : Int), .slice ga gn gc, .int .u64 (p.hor : Int), .int .i64 p.whom, .int .u32 (p.seq : Int), .int .u64 (p.mem : Int), .int .u64 (p.prom.e : Int), .int .i64 p.prom.r, .int .u64 (p.epoch : Int), .slice xa xn xc] from rfl]
  go_enter Try.func15, Try.ntmps15
  go_upto_region 1 with fail
  rw [show ((w.alloc (.cells #[.int .i64 p.kind, .int .i64 p.frm, .int .i64 p.to, .int .u64 (p.conf.e : Int), .int .i64 p.conf.r, .int .i64 p.m.f, .int .u32 (p.m.q : Int), .int .u64 (p.m.s : Int), .int .i64 p.m.v, .slice da dn dc, .string T, .int .u64 (p.stamp : Int), .int .u32 (p.sent : Int), .slice ga gn gc, .int .u64 (p.hor : Int), .int .i64 p.whom, .int .u32 (p.seq : Int), .int .u64 (p.mem : Int), .int .u64 (p.prom.e : Int), .int .i64 p.prom.r, .int .u64 (p.epoch : Int), .slice xa xn xc] 35)).alloc (.cells #[.int .i64 0, .int .i64 0, .int .i64 0, .int .u64 0, .int .i64 0, .int .i64 0, .int .u32 0, .int .u64 0, .int .i64 0, .slice none 0 0, .string { data := #[] }, .int .u64 0, .int .u32 0, .slice none 0 0, .int .u64 0, .int .i64 0, .int .u32 0, .int .u64 0, .int .u64 0, .int .i64 0, .int .u64 0, .slice none 0 0] 35)) = B1 from HB.out.symm]
  go_upto_region 2 with (refine store_packet (p := baseP 6 p.frm p.to) (T := { data := #[] }) (vd := Vc.nil) (vg := Vc.nil) (vx := Vc.nil) rfl (.tmp 3) (.tmp 11) rfl (w.heap.size + 2) rfl rfl ON ?_)
  have S1 := HS.out.shared
  clear HS c0 c1 c2 ON
  generalize hW1 : ((B1.alloc (.cells (encP zeroP { data := #[] } Vc.nil Vc.nil Vc.nil).toArray 35)).setRow (w.heap.size + 2) (encP (baseP 6 p.frm p.to) { data := #[] } Vc.nil Vc.nil Vc.nil).toArray) = W1 at S1
  rw [show ((B1.alloc (.cells #[.int .i64 0, .int .i64 0, .int .i64 0, .int .u64 0, .int .i64 0, .int .i64 0, .int .u32 0, .int .u64 0, .int .i64 0, .slice none 0 0, .string { data := #[] }, .int .u64 0, .int .u32 0, .slice none 0 0, .int .u64 0, .int .i64 0, .int .u32 0, .int .u64 0, .int .u64 0, .int .i64 0, .int .u64 0, .slice none 0 0] 35)).setRow (w.heap.size + 2) (encP (baseP 6 p.frm p.to) { data := #[] } Vc.nil Vc.nil Vc.nil).toArray) = W1 from hW1]
  clear hW1 HB hz
  obtain ⟨g, hg⟩ : ∃ g, g = w.heap.size + 2 := ⟨_, rfl⟩
  rw [← hg] at S1
  rw [← hg]
  have hne : g ≠ w.heap.size := by omega
  have hne2 : w.heap.size ≠ g := by omega
  clear hg B1
  have c0 : W1.cell? ⟨w.heap.size, 0, none⟩ = some (.int .i64 6) := by rw [← HK.out]; exact S1.box.at_ 0 _ rfl
  have c3 : W1.cell? ⟨w.heap.size, 3, none⟩ = some (.int .u64 (p.conf.e : Int)) := S1.box.at_ 3 _ rfl
  have c4 : W1.cell? ⟨w.heap.size, 4, none⟩ = some (.int .i64 p.conf.r) := S1.box.at_ 4 _ rfl
  have d3 : W1.cell? ⟨g, 3, none⟩ = some (.int .u64 0) := S1.row.at_ 3 _ rfl
  have f3 := S1.row.free 3
  have d4 : W1.cell? ⟨g, 4, none⟩ = some (.int .i64 0) := S1.row.at_ 4 _ rfl
  have f4 := S1.row.free 4
  go_upto_region 4 with fail
  go_wp2_with fail
  refine (row_6 W1).mono ?_
  rintro e w2 ⟨rfl, rfl⟩
  rw [show rowS 6 = { data := #[99, 120] } from rfl]
  go_upto_region 6 with fail
  have S2 := (S1.set 3 (.int .u64 (p.conf.e : Int)) (q' := { baseP 6 p.frm p.to with conf := ⟨p.conf.e, 0⟩ }) (T2 := { data := #[] }) (sd := Vc.nil) (sg := Vc.nil) (sx := Vc.nil) rfl).set 4 (.int .i64 p.conf.r) (q' := { baseP 6 p.frm p.to with conf := p.conf }) (T2 := { data := #[] }) (sd := Vc.nil) (sg := Vc.nil) (sx := Vc.nil) rfl
  generalize ((W1.setCell ⟨g, 3, none⟩ (.int .u64 (p.conf.e : Int))).setCell ⟨g, 4, none⟩ (.int .i64 p.conf.r)) = W2 at *
  clear S1 c0 c3 c4 d3 d4 f3 f4
  have c21 : W2.cell? ⟨w.heap.size, 21, none⟩ = some (.slice xa xn xc) := S2.box.at_ 21 _ rfl
  have d21 : W2.cell? ⟨g, 21, none⟩ = some (.slice none 0 0) := S2.row.at_ 21 _ rfl
  have f21 := S2.row.free 21
  have hb : ∀ w : World, Calls Try.prog 38 #[.string { data := #[99, 120] }, .int .u8 98] w fun e w' => e = .returned (.bool false) ∧ w = w' := fun w => has_at { data := #[99, 120] } 98 false (by decide) (by decide) (by decide) w
  have hm : ∀ w : World, Calls Try.prog 38 #[.string { data := #[99, 120] }, .int .u8 109] w fun e w' => e = .returned (.bool false) ∧ w = w' := fun w => has_at { data := #[99, 120] } 109 false (by decide) (by decide) (by decide) w
  have hp : ∀ w : World, Calls Try.prog 38 #[.string { data := #[99, 120] }, .int .u8 112] w fun e w' => e = .returned (.bool false) ∧ w = w' := fun w => has_at { data := #[99, 120] } 112 false (by decide) (by decide) (by decide) w
  have hq : ∀ w : World, Calls Try.prog 38 #[.string { data := #[99, 120] }, .int .u8 113] w fun e w' => e = .returned (.bool false) ∧ w = w' := fun w => has_at { data := #[99, 120] } 113 false (by decide) (by decide) (by decide) w
  have hs : ∀ w : World, Calls Try.prog 38 #[.string { data := #[99, 120] }, .int .u8 115] w fun e w' => e = .returned (.bool false) ∧ w = w' := fun w => has_at { data := #[99, 120] } 115 false (by decide) (by decide) (by decide) w
  have hw : ∀ w : World, Calls Try.prog 38 #[.string { data := #[99, 120] }, .int .u8 119] w fun e w' => e = .returned (.bool false) ∧ w = w' := fun w => has_at { data := #[99, 120] } 119 false (by decide) (by decide) (by decide) w
  have hx : ∀ w : World, Calls Try.prog 38 #[.string { data := #[99, 120] }, .int .u8 120] w fun e w' => e = .returned (.bool true) ∧ w = w' := fun w => has_at { data := #[99, 120] } 120 true (by decide) (by decide) (by decide) w
  go_upto_region 27 with (go_at_call 38; (first | (with_reducible refine (hb _).mono ?_) | (with_reducible refine (hm _).mono ?_) | (with_reducible refine (hp _).mono ?_) | (with_reducible refine (hq _).mono ?_) | (with_reducible refine (hs _).mono ?_) | (with_reducible refine (hw _).mono ?_) | (with_reducible refine (hx _).mono ?_)); rintro e w' ⟨rfl, rfl⟩)
  have U1 := S2.set 21 (.slice xa xn xc) (q' := { baseP 6 p.frm p.to with conf := p.conf, x := p.x }) (T2 := { data := #[] }) (sd := Vc.nil) (sg := Vc.nil) (sx := ⟨xa, xn, xc⟩) rfl
  have HE : Hid (cleanP p = { baseP 6 p.frm p.to with conf := p.conf, x := p.x }) := Lib.hid (by unfold cleanP; rw [show rowP p = [.c, .x] from by unfold rowP; rw [HK.out]; rfl, HK.out]; rfl)
  have SZ := U1
  go_wp2_with (first | (refine load_packet rfl (.tmp 3) rfl g rfl SZ.row ?_) | (refine store_packet rfl (.tmp 2) (.tmp 88) rfl (w.heap.size + 1) rfl rfl SZ.res ?_))
  (try simp only [Exit.inBlock, Exit.then])
  refine bodyPost_ret (results_packet rfl _ _ (w.heap.size + 1) rfl (SZ.res.row _)) rfl ?_
  exact SZ.done HE.out ⟨rfl, (OwnVec.nil 0 w).at_, (OwnVec.nil 0 w).at_, HT.out.xs⟩
end Go.Proofs.Ytgkddjapcdjalaa

/- The document's Clean: kind 7. (Written by wip/gen_refclean.py.) -/
set_option linter.unusedVariables false
set_option linter.unusedSimpArgs false
namespace Go.Proofs.Ytgkddjapcdjalaa
open Go.RowKit Go.Sort

set_option maxHeartbeats 4000000 in
set_option maxRecDepth 100000 in
theorem rclean_7 (w : World) (p : Pk) (T : ByteArray) (vd vg vx : Vc) (ht : PkAt w p T vd vg vx) (hsm : Small p) (hk : p.kind = 7) :
    Calls Try.prog 15 #[.agg (encP p T vd vg vx).toArray] w (RcPost w p) := by
  obtain ⟨da, dn, dc⟩ := vd
  obtain ⟨ga, gn, gc⟩ := vg
  obtain ⟨xa, xn, xc⟩ := vx
  have S0 := CSt.new (w := w) p T ⟨da, dn, dc⟩ ⟨ga, gn, gc⟩ ⟨xa, xn, xc⟩ 7 p.frm p.to
  have hd : dn ≤ 1048576 := by have := ht.deps.len; simp only at this; rw [← this]; exact hsm.deps
  have hgn : gn ≤ 1048576 := by have := ht.got.len; simp only at this; rw [← this]; exact hsm.got
  have hxn : xn ≤ 1048576 := by have := ht.xs.len; simp only at this; rw [← this]; exact hsm.xs
  have hT : T.size ≤ 1048576 := by rw [size_text ht.text]; exact hsm.text
  have HC : Hid (∀ x ∈ p.x, x.cnt.length ≤ 1048576) := Lib.hid hsm.cnt
  have HT := Lib.hid ht
  clear ht hsm
  obtain ⟨B1, hB1⟩ : ∃ B1, B1 = (w.alloc (.cells (encP p T ⟨da, dn, dc⟩ ⟨ga, gn, gc⟩ ⟨xa, xn, xc⟩).toArray 35)).alloc (.cells (encP zeroP { data := #[] } Vc.nil Vc.nil Vc.nil).toArray 35) := ⟨_, rfl⟩
  have hz : B1.heap.size = w.heap.size + 2 := by rw [hB1]; simp
  have G1 : Grw (w.alloc (.cells (encP p T ⟨da, dn, dc⟩ ⟨ga, gn, gc⟩ ⟨xa, xn, xc⟩).toArray 35)) B1 := by rw [hB1]; exact (Grw.refl _).alloc _
  have OB := (Own.new w 35 (encP p T ⟨da, dn, dc⟩ ⟨ga, gn, gc⟩ ⟨xa, xn, xc⟩).toArray).below G1.below (by simp)
  rw [← hB1] at S0
  have c0 : B1.cell? ⟨w.heap.size, 0, none⟩ = some (.int .i64 7) := by rw [← hk]; exact OB.at_ 0 _ rfl
  have c1 : B1.cell? ⟨w.heap.size, 1, none⟩ = some (.int .i64 p.frm) := OB.at_ 1 _ rfl
  have c2 : B1.cell? ⟨w.heap.size, 2, none⟩ = some (.int .i64 p.to) := OB.at_ 2 _ rfl
  have ON := Own.new B1 35 (encP zeroP { data := #[] } Vc.nil Vc.nil Vc.nil).toArray
  rw [hz] at ON
  have HK := Lib.hid hk
  have HB := Lib.hid hB1
  have HS := Lib.hid S0
  clear hk hB1 S0 G1 OB
  rw [show (encP p T ⟨da, dn, dc⟩ ⟨ga, gn, gc⟩ ⟨xa, xn, xc⟩).toArray = #[.int .i64 p.kind, .int .i64 p.frm, .int .i64 p.to, .int .u64 (p.conf.e : Int), .int .i64 p.conf.r, .int .i64 p.m.f, .int .u32 (p.m.q : Int), .int .u64 (p.m.s : Int), .int .i64 p.m.v, .slice da dn dc, .string T, .int .u64 (p.stamp : Int), .int .u32 (p.sent : Int), .slice ga gn gc, .int .u64 (p.hor : Int), .int .i64 p.whom, .int .u32 (p.seq : Int), .int .u64 (p.mem : Int), .int .u64 (p.prom.e : Int), .int .i64 p.prom.r, .int .u64 (p.epoch : Int), .slice xa xn xc] from rfl]
  go_enter Try.func15, Try.ntmps15
  go_upto_region 1 with fail
  rw [show ((w.alloc (.cells #[.int .i64 p.kind, .int .i64 p.frm, .int .i64 p.to, .int .u64 (p.conf.e : Int), .int .i64 p.conf.r, .int .i64 p.m.f, .int .u32 (p.m.q : Int), .int .u64 (p.m.s : Int), .int .i64 p.m.v, .slice da dn dc, .string T, .int .u64 (p.stamp : Int), .int .u32 (p.sent : Int), .slice ga gn gc, .int .u64 (p.hor : Int), .int .i64 p.whom, .int .u32 (p.seq : Int), .int .u64 (p.mem : Int), .int .u64 (p.prom.e : Int), .int .i64 p.prom.r, .int .u64 (p.epoch : Int), .slice xa xn xc] 35)).alloc (.cells #[.int .i64 0, .int .i64 0, .int .i64 0, .int .u64 0, .int .i64 0, .int .i64 0, .int .u32 0, .int .u64 0, .int .i64 0, .slice none 0 0, .string { data := #[] }, .int .u64 0, .int .u32 0, .slice none 0 0, .int .u64 0, .int .i64 0, .int .u32 0, .int .u64 0, .int .u64 0, .int .i64 0, .int .u64 0, .slice none 0 0] 35)) = B1 from HB.out.symm]
  go_upto_region 2 with (refine store_packet (p := baseP 7 p.frm p.to) (T := { data := #[] }) (vd := Vc.nil) (vg := Vc.nil) (vx := Vc.nil) rfl (.tmp 3) (.tmp 11) rfl (w.heap.size + 2) rfl rfl ON ?_)
  have S1 := HS.out.shared
  clear HS c0 c1 c2 ON
  generalize hW1 : ((B1.alloc (.cells (encP zeroP { data := #[] } Vc.nil Vc.nil Vc.nil).toArray 35)).setRow (w.heap.size + 2) (encP (baseP 7 p.frm p.to) { data := #[] } Vc.nil Vc.nil Vc.nil).toArray) = W1 at S1
  rw [show ((B1.alloc (.cells #[.int .i64 0, .int .i64 0, .int .i64 0, .int .u64 0, .int .i64 0, .int .i64 0, .int .u32 0, .int .u64 0, .int .i64 0, .slice none 0 0, .string { data := #[] }, .int .u64 0, .int .u32 0, .slice none 0 0, .int .u64 0, .int .i64 0, .int .u32 0, .int .u64 0, .int .u64 0, .int .i64 0, .int .u64 0, .slice none 0 0] 35)).setRow (w.heap.size + 2) (encP (baseP 7 p.frm p.to) { data := #[] } Vc.nil Vc.nil Vc.nil).toArray) = W1 from hW1]
  clear hW1 HB hz
  obtain ⟨g, hg⟩ : ∃ g, g = w.heap.size + 2 := ⟨_, rfl⟩
  rw [← hg] at S1
  rw [← hg]
  have hne : g ≠ w.heap.size := by omega
  have hne2 : w.heap.size ≠ g := by omega
  clear hg B1
  have c0 : W1.cell? ⟨w.heap.size, 0, none⟩ = some (.int .i64 7) := by rw [← HK.out]; exact S1.box.at_ 0 _ rfl
  have c3 : W1.cell? ⟨w.heap.size, 3, none⟩ = some (.int .u64 (p.conf.e : Int)) := S1.box.at_ 3 _ rfl
  have c4 : W1.cell? ⟨w.heap.size, 4, none⟩ = some (.int .i64 p.conf.r) := S1.box.at_ 4 _ rfl
  have d3 : W1.cell? ⟨g, 3, none⟩ = some (.int .u64 0) := S1.row.at_ 3 _ rfl
  have f3 := S1.row.free 3
  have d4 : W1.cell? ⟨g, 4, none⟩ = some (.int .i64 0) := S1.row.at_ 4 _ rfl
  have f4 := S1.row.free 4
  go_upto_region 4 with fail
  go_wp2_with fail
  refine (row_7 W1).mono ?_
  rintro e w2 ⟨rfl, rfl⟩
  rw [show rowS 7 = { data := #[99, 98, 108] } from rfl]
  go_upto_region 6 with fail
  have S2 := (S1.set 3 (.int .u64 (p.conf.e : Int)) (q' := { baseP 7 p.frm p.to with conf := ⟨p.conf.e, 0⟩ }) (T2 := { data := #[] }) (sd := Vc.nil) (sg := Vc.nil) (sx := Vc.nil) rfl).set 4 (.int .i64 p.conf.r) (q' := { baseP 7 p.frm p.to with conf := p.conf }) (T2 := { data := #[] }) (sd := Vc.nil) (sg := Vc.nil) (sx := Vc.nil) rfl
  generalize ((W1.setCell ⟨g, 3, none⟩ (.int .u64 (p.conf.e : Int))).setCell ⟨g, 4, none⟩ (.int .i64 p.conf.r)) = W2 at *
  clear S1 c0 c3 c4 d3 d4 f3 f4
  have c17 : W2.cell? ⟨w.heap.size, 17, none⟩ = some (.int .u64 (p.mem : Int)) := S2.box.at_ 17 _ rfl
  have c21 : W2.cell? ⟨w.heap.size, 21, none⟩ = some (.slice xa xn xc) := S2.box.at_ 21 _ rfl
  have d17 : W2.cell? ⟨g, 17, none⟩ = some (.int .u64 0) := S2.row.at_ 17 _ rfl
  have f17 := S2.row.free 17
  have d21 : W2.cell? ⟨g, 21, none⟩ = some (.slice none 0 0) := S2.row.at_ 21 _ rfl
  have f21 := S2.row.free 21
  have hb : ∀ w : World, Calls Try.prog 38 #[.string { data := #[99, 98, 108] }, .int .u8 98] w fun e w' => e = .returned (.bool true) ∧ w = w' := fun w => has_at { data := #[99, 98, 108] } 98 true (by decide) (by decide) (by decide) w
  have hl : ∀ w : World, Calls Try.prog 38 #[.string { data := #[99, 98, 108] }, .int .u8 108] w fun e w' => e = .returned (.bool true) ∧ w = w' := fun w => has_at { data := #[99, 98, 108] } 108 true (by decide) (by decide) (by decide) w
  have hm : ∀ w : World, Calls Try.prog 38 #[.string { data := #[99, 98, 108] }, .int .u8 109] w fun e w' => e = .returned (.bool false) ∧ w = w' := fun w => has_at { data := #[99, 98, 108] } 109 false (by decide) (by decide) (by decide) w
  have hp : ∀ w : World, Calls Try.prog 38 #[.string { data := #[99, 98, 108] }, .int .u8 112] w fun e w' => e = .returned (.bool false) ∧ w = w' := fun w => has_at { data := #[99, 98, 108] } 112 false (by decide) (by decide) (by decide) w
  have hq : ∀ w : World, Calls Try.prog 38 #[.string { data := #[99, 98, 108] }, .int .u8 113] w fun e w' => e = .returned (.bool false) ∧ w = w' := fun w => has_at { data := #[99, 98, 108] } 113 false (by decide) (by decide) (by decide) w
  have hs : ∀ w : World, Calls Try.prog 38 #[.string { data := #[99, 98, 108] }, .int .u8 115] w fun e w' => e = .returned (.bool false) ∧ w = w' := fun w => has_at { data := #[99, 98, 108] } 115 false (by decide) (by decide) (by decide) w
  have hw : ∀ w : World, Calls Try.prog 38 #[.string { data := #[99, 98, 108] }, .int .u8 119] w fun e w' => e = .returned (.bool false) ∧ w = w' := fun w => has_at { data := #[99, 98, 108] } 119 false (by decide) (by decide) (by decide) w
  have hx : ∀ w : World, Calls Try.prog 38 #[.string { data := #[99, 98, 108] }, .int .u8 120] w fun e w' => e = .returned (.bool false) ∧ w = w' := fun w => has_at { data := #[99, 98, 108] } 120 false (by decide) (by decide) (by decide) w
  go_upto_region 27 with (go_at_call 38; (first | (with_reducible refine (hb _).mono ?_) | (with_reducible refine (hl _).mono ?_) | (with_reducible refine (hm _).mono ?_) | (with_reducible refine (hp _).mono ?_) | (with_reducible refine (hq _).mono ?_) | (with_reducible refine (hs _).mono ?_) | (with_reducible refine (hw _).mono ?_) | (with_reducible refine (hx _).mono ?_)); rintro e w' ⟨rfl, rfl⟩)
  have U1 := S2.set 17 (.int .u64 (p.mem : Int)) (q' := { baseP 7 p.frm p.to with conf := p.conf, mem := p.mem }) (T2 := { data := #[] }) (sd := Vc.nil) (sg := Vc.nil) (sx := Vc.nil) rfl
  have U2 := U1.set 21 (.slice xa xn xc) (q' := { baseP 7 p.frm p.to with conf := p.conf, mem := p.mem, x := p.x }) (T2 := { data := #[] }) (sd := Vc.nil) (sg := Vc.nil) (sx := ⟨xa, xn, xc⟩) rfl
  have HE : Hid (cleanP p = { baseP 7 p.frm p.to with conf := p.conf, mem := p.mem, x := p.x }) := Lib.hid (by unfold cleanP; rw [show rowP p = [.c, .b, .l] from by unfold rowP; rw [HK.out]; rfl, HK.out]; rfl)
  have SZ := U2
  go_wp2_with (first | (refine load_packet rfl (.tmp 3) rfl g rfl SZ.row ?_) | (refine store_packet rfl (.tmp 2) (.tmp 88) rfl (w.heap.size + 1) rfl rfl SZ.res ?_))
  (try simp only [Exit.inBlock, Exit.then])
  refine bodyPost_ret (results_packet rfl _ _ (w.heap.size + 1) rfl (SZ.res.row _)) rfl ?_
  exact SZ.done HE.out ⟨rfl, (OwnVec.nil 0 w).at_, (OwnVec.nil 0 w).at_, HT.out.xs⟩
end Go.Proofs.Ytgkddjapcdjalaa

/- The document's Clean: kind 8. (Written by wip/gen_refclean.py.) -/
set_option linter.unusedVariables false
set_option linter.unusedSimpArgs false
namespace Go.Proofs.Ytgkddjapcdjalaa
open Go.RowKit Go.Sort

set_option maxHeartbeats 4000000 in
set_option maxRecDepth 100000 in
theorem rclean_8 (w : World) (p : Pk) (T : ByteArray) (vd vg vx : Vc) (ht : PkAt w p T vd vg vx) (hsm : Small p) (hk : p.kind = 8) :
    Calls Try.prog 15 #[.agg (encP p T vd vg vx).toArray] w (RcPost w p) := by
  obtain ⟨da, dn, dc⟩ := vd
  obtain ⟨ga, gn, gc⟩ := vg
  obtain ⟨xa, xn, xc⟩ := vx
  have S0 := CSt.new (w := w) p T ⟨da, dn, dc⟩ ⟨ga, gn, gc⟩ ⟨xa, xn, xc⟩ 8 p.frm p.to
  have hd : dn ≤ 1048576 := by have := ht.deps.len; simp only at this; rw [← this]; exact hsm.deps
  have hgn : gn ≤ 1048576 := by have := ht.got.len; simp only at this; rw [← this]; exact hsm.got
  have hxn : xn ≤ 1048576 := by have := ht.xs.len; simp only at this; rw [← this]; exact hsm.xs
  have hT : T.size ≤ 1048576 := by rw [size_text ht.text]; exact hsm.text
  have HC : Hid (∀ x ∈ p.x, x.cnt.length ≤ 1048576) := Lib.hid hsm.cnt
  have HT := Lib.hid ht
  clear ht hsm
  obtain ⟨B1, hB1⟩ : ∃ B1, B1 = (w.alloc (.cells (encP p T ⟨da, dn, dc⟩ ⟨ga, gn, gc⟩ ⟨xa, xn, xc⟩).toArray 35)).alloc (.cells (encP zeroP { data := #[] } Vc.nil Vc.nil Vc.nil).toArray 35) := ⟨_, rfl⟩
  have hz : B1.heap.size = w.heap.size + 2 := by rw [hB1]; simp
  have G1 : Grw (w.alloc (.cells (encP p T ⟨da, dn, dc⟩ ⟨ga, gn, gc⟩ ⟨xa, xn, xc⟩).toArray 35)) B1 := by rw [hB1]; exact (Grw.refl _).alloc _
  have OB := (Own.new w 35 (encP p T ⟨da, dn, dc⟩ ⟨ga, gn, gc⟩ ⟨xa, xn, xc⟩).toArray).below G1.below (by simp)
  rw [← hB1] at S0
  have c0 : B1.cell? ⟨w.heap.size, 0, none⟩ = some (.int .i64 8) := by rw [← hk]; exact OB.at_ 0 _ rfl
  have c1 : B1.cell? ⟨w.heap.size, 1, none⟩ = some (.int .i64 p.frm) := OB.at_ 1 _ rfl
  have c2 : B1.cell? ⟨w.heap.size, 2, none⟩ = some (.int .i64 p.to) := OB.at_ 2 _ rfl
  have ON := Own.new B1 35 (encP zeroP { data := #[] } Vc.nil Vc.nil Vc.nil).toArray
  rw [hz] at ON
  have HK := Lib.hid hk
  have HB := Lib.hid hB1
  have HS := Lib.hid S0
  clear hk hB1 S0 G1 OB
  rw [show (encP p T ⟨da, dn, dc⟩ ⟨ga, gn, gc⟩ ⟨xa, xn, xc⟩).toArray = #[.int .i64 p.kind, .int .i64 p.frm, .int .i64 p.to, .int .u64 (p.conf.e : Int), .int .i64 p.conf.r, .int .i64 p.m.f, .int .u32 (p.m.q : Int), .int .u64 (p.m.s : Int), .int .i64 p.m.v, .slice da dn dc, .string T, .int .u64 (p.stamp : Int), .int .u32 (p.sent : Int), .slice ga gn gc, .int .u64 (p.hor : Int), .int .i64 p.whom, .int .u32 (p.seq : Int), .int .u64 (p.mem : Int), .int .u64 (p.prom.e : Int), .int .i64 p.prom.r, .int .u64 (p.epoch : Int), .slice xa xn xc] from rfl]
  go_enter Try.func15, Try.ntmps15
  go_upto_region 1 with fail
  rw [show ((w.alloc (.cells #[.int .i64 p.kind, .int .i64 p.frm, .int .i64 p.to, .int .u64 (p.conf.e : Int), .int .i64 p.conf.r, .int .i64 p.m.f, .int .u32 (p.m.q : Int), .int .u64 (p.m.s : Int), .int .i64 p.m.v, .slice da dn dc, .string T, .int .u64 (p.stamp : Int), .int .u32 (p.sent : Int), .slice ga gn gc, .int .u64 (p.hor : Int), .int .i64 p.whom, .int .u32 (p.seq : Int), .int .u64 (p.mem : Int), .int .u64 (p.prom.e : Int), .int .i64 p.prom.r, .int .u64 (p.epoch : Int), .slice xa xn xc] 35)).alloc (.cells #[.int .i64 0, .int .i64 0, .int .i64 0, .int .u64 0, .int .i64 0, .int .i64 0, .int .u32 0, .int .u64 0, .int .i64 0, .slice none 0 0, .string { data := #[] }, .int .u64 0, .int .u32 0, .slice none 0 0, .int .u64 0, .int .i64 0, .int .u32 0, .int .u64 0, .int .u64 0, .int .i64 0, .int .u64 0, .slice none 0 0] 35)) = B1 from HB.out.symm]
  go_upto_region 2 with (refine store_packet (p := baseP 8 p.frm p.to) (T := { data := #[] }) (vd := Vc.nil) (vg := Vc.nil) (vx := Vc.nil) rfl (.tmp 3) (.tmp 11) rfl (w.heap.size + 2) rfl rfl ON ?_)
  have S1 := HS.out.shared
  clear HS c0 c1 c2 ON
  generalize hW1 : ((B1.alloc (.cells (encP zeroP { data := #[] } Vc.nil Vc.nil Vc.nil).toArray 35)).setRow (w.heap.size + 2) (encP (baseP 8 p.frm p.to) { data := #[] } Vc.nil Vc.nil Vc.nil).toArray) = W1 at S1
  rw [show ((B1.alloc (.cells #[.int .i64 0, .int .i64 0, .int .i64 0, .int .u64 0, .int .i64 0, .int .i64 0, .int .u32 0, .int .u64 0, .int .i64 0, .slice none 0 0, .string { data := #[] }, .int .u64 0, .int .u32 0, .slice none 0 0, .int .u64 0, .int .i64 0, .int .u32 0, .int .u64 0, .int .u64 0, .int .i64 0, .int .u64 0, .slice none 0 0] 35)).setRow (w.heap.size + 2) (encP (baseP 8 p.frm p.to) { data := #[] } Vc.nil Vc.nil Vc.nil).toArray) = W1 from hW1]
  clear hW1 HB hz
  obtain ⟨g, hg⟩ : ∃ g, g = w.heap.size + 2 := ⟨_, rfl⟩
  rw [← hg] at S1
  rw [← hg]
  have hne : g ≠ w.heap.size := by omega
  have hne2 : w.heap.size ≠ g := by omega
  clear hg B1
  have c0 : W1.cell? ⟨w.heap.size, 0, none⟩ = some (.int .i64 8) := by rw [← HK.out]; exact S1.box.at_ 0 _ rfl
  have c3 : W1.cell? ⟨w.heap.size, 3, none⟩ = some (.int .u64 (p.conf.e : Int)) := S1.box.at_ 3 _ rfl
  have c4 : W1.cell? ⟨w.heap.size, 4, none⟩ = some (.int .i64 p.conf.r) := S1.box.at_ 4 _ rfl
  have d3 : W1.cell? ⟨g, 3, none⟩ = some (.int .u64 0) := S1.row.at_ 3 _ rfl
  have f3 := S1.row.free 3
  have d4 : W1.cell? ⟨g, 4, none⟩ = some (.int .i64 0) := S1.row.at_ 4 _ rfl
  have f4 := S1.row.free 4
  go_upto_region 4 with fail
  go_wp2_with fail
  refine (row_8 W1).mono ?_
  rintro e w2 ⟨rfl, rfl⟩
  rw [show rowS 8 = { data := #[99, 119, 113] } from rfl]
  go_upto_region 6 with fail
  have S2 := (S1.set 3 (.int .u64 (p.conf.e : Int)) (q' := { baseP 8 p.frm p.to with conf := ⟨p.conf.e, 0⟩ }) (T2 := { data := #[] }) (sd := Vc.nil) (sg := Vc.nil) (sx := Vc.nil) rfl).set 4 (.int .i64 p.conf.r) (q' := { baseP 8 p.frm p.to with conf := p.conf }) (T2 := { data := #[] }) (sd := Vc.nil) (sg := Vc.nil) (sx := Vc.nil) rfl
  generalize ((W1.setCell ⟨g, 3, none⟩ (.int .u64 (p.conf.e : Int))).setCell ⟨g, 4, none⟩ (.int .i64 p.conf.r)) = W2 at *
  clear S1 c0 c3 c4 d3 d4 f3 f4
  have c15 : W2.cell? ⟨w.heap.size, 15, none⟩ = some (.int .i64 p.whom) := S2.box.at_ 15 _ rfl
  have c16 : W2.cell? ⟨w.heap.size, 16, none⟩ = some (.int .u32 (p.seq : Int)) := S2.box.at_ 16 _ rfl
  have d15 : W2.cell? ⟨g, 15, none⟩ = some (.int .i64 0) := S2.row.at_ 15 _ rfl
  have f15 := S2.row.free 15
  have d16 : W2.cell? ⟨g, 16, none⟩ = some (.int .u32 0) := S2.row.at_ 16 _ rfl
  have f16 := S2.row.free 16
  have hb : ∀ w : World, Calls Try.prog 38 #[.string { data := #[99, 119, 113] }, .int .u8 98] w fun e w' => e = .returned (.bool false) ∧ w = w' := fun w => has_at { data := #[99, 119, 113] } 98 false (by decide) (by decide) (by decide) w
  have hl : ∀ w : World, Calls Try.prog 38 #[.string { data := #[99, 119, 113] }, .int .u8 108] w fun e w' => e = .returned (.bool false) ∧ w = w' := fun w => has_at { data := #[99, 119, 113] } 108 false (by decide) (by decide) (by decide) w
  have hm : ∀ w : World, Calls Try.prog 38 #[.string { data := #[99, 119, 113] }, .int .u8 109] w fun e w' => e = .returned (.bool false) ∧ w = w' := fun w => has_at { data := #[99, 119, 113] } 109 false (by decide) (by decide) (by decide) w
  have hp : ∀ w : World, Calls Try.prog 38 #[.string { data := #[99, 119, 113] }, .int .u8 112] w fun e w' => e = .returned (.bool false) ∧ w = w' := fun w => has_at { data := #[99, 119, 113] } 112 false (by decide) (by decide) (by decide) w
  have hq : ∀ w : World, Calls Try.prog 38 #[.string { data := #[99, 119, 113] }, .int .u8 113] w fun e w' => e = .returned (.bool true) ∧ w = w' := fun w => has_at { data := #[99, 119, 113] } 113 true (by decide) (by decide) (by decide) w
  have hs : ∀ w : World, Calls Try.prog 38 #[.string { data := #[99, 119, 113] }, .int .u8 115] w fun e w' => e = .returned (.bool false) ∧ w = w' := fun w => has_at { data := #[99, 119, 113] } 115 false (by decide) (by decide) (by decide) w
  have hw : ∀ w : World, Calls Try.prog 38 #[.string { data := #[99, 119, 113] }, .int .u8 119] w fun e w' => e = .returned (.bool true) ∧ w = w' := fun w => has_at { data := #[99, 119, 113] } 119 true (by decide) (by decide) (by decide) w
  have hx : ∀ w : World, Calls Try.prog 38 #[.string { data := #[99, 119, 113] }, .int .u8 120] w fun e w' => e = .returned (.bool false) ∧ w = w' := fun w => has_at { data := #[99, 119, 113] } 120 false (by decide) (by decide) (by decide) w
  go_upto_region 27 with (go_at_call 38; (first | (with_reducible refine (hb _).mono ?_) | (with_reducible refine (hl _).mono ?_) | (with_reducible refine (hm _).mono ?_) | (with_reducible refine (hp _).mono ?_) | (with_reducible refine (hq _).mono ?_) | (with_reducible refine (hs _).mono ?_) | (with_reducible refine (hw _).mono ?_) | (with_reducible refine (hx _).mono ?_)); rintro e w' ⟨rfl, rfl⟩)
  have U1 := S2.set 15 (.int .i64 p.whom) (q' := { baseP 8 p.frm p.to with conf := p.conf, whom := p.whom }) (T2 := { data := #[] }) (sd := Vc.nil) (sg := Vc.nil) (sx := Vc.nil) rfl
  have U2 := U1.set 16 (.int .u32 (p.seq : Int)) (q' := { baseP 8 p.frm p.to with conf := p.conf, whom := p.whom, seq := p.seq }) (T2 := { data := #[] }) (sd := Vc.nil) (sg := Vc.nil) (sx := Vc.nil) rfl
  have HE : Hid (cleanP p = { baseP 8 p.frm p.to with conf := p.conf, whom := p.whom, seq := p.seq }) := Lib.hid (by unfold cleanP; rw [show rowP p = [.c, .w, .q] from by unfold rowP; rw [HK.out]; rfl, HK.out]; rfl)
  have SZ := U2
  go_wp2_with (first | (refine load_packet rfl (.tmp 3) rfl g rfl SZ.row ?_) | (refine store_packet rfl (.tmp 2) (.tmp 88) rfl (w.heap.size + 1) rfl rfl SZ.res ?_))
  (try simp only [Exit.inBlock, Exit.then])
  refine bodyPost_ret (results_packet rfl _ _ (w.heap.size + 1) rfl (SZ.res.row _)) rfl ?_
  exact SZ.done HE.out ⟨rfl, (OwnVec.nil 0 w).at_, (OwnVec.nil 0 w).at_, (OwnXs.nil 0 w).at_⟩
end Go.Proofs.Ytgkddjapcdjalaa

/- The document's Clean: kind 9. (Written by wip/gen_refclean.py.) -/
set_option linter.unusedVariables false
set_option linter.unusedSimpArgs false
namespace Go.Proofs.Ytgkddjapcdjalaa
open Go.RowKit Go.Sort

set_option maxHeartbeats 4000000 in
set_option maxRecDepth 100000 in
theorem rclean_9 (w : World) (p : Pk) (T : ByteArray) (vd vg vx : Vc) (ht : PkAt w p T vd vg vx) (hsm : Small p) (hk : p.kind = 9) :
    Calls Try.prog 15 #[.agg (encP p T vd vg vx).toArray] w (RcPost w p) := by
  obtain ⟨da, dn, dc⟩ := vd
  obtain ⟨ga, gn, gc⟩ := vg
  obtain ⟨xa, xn, xc⟩ := vx
  have S0 := CSt.new (w := w) p T ⟨da, dn, dc⟩ ⟨ga, gn, gc⟩ ⟨xa, xn, xc⟩ 9 p.frm p.to
  have hd : dn ≤ 1048576 := by have := ht.deps.len; simp only at this; rw [← this]; exact hsm.deps
  have hgn : gn ≤ 1048576 := by have := ht.got.len; simp only at this; rw [← this]; exact hsm.got
  have hxn : xn ≤ 1048576 := by have := ht.xs.len; simp only at this; rw [← this]; exact hsm.xs
  have hT : T.size ≤ 1048576 := by rw [size_text ht.text]; exact hsm.text
  have HC : Hid (∀ x ∈ p.x, x.cnt.length ≤ 1048576) := Lib.hid hsm.cnt
  have HT := Lib.hid ht
  clear ht hsm
  obtain ⟨B1, hB1⟩ : ∃ B1, B1 = (w.alloc (.cells (encP p T ⟨da, dn, dc⟩ ⟨ga, gn, gc⟩ ⟨xa, xn, xc⟩).toArray 35)).alloc (.cells (encP zeroP { data := #[] } Vc.nil Vc.nil Vc.nil).toArray 35) := ⟨_, rfl⟩
  have hz : B1.heap.size = w.heap.size + 2 := by rw [hB1]; simp
  have G1 : Grw (w.alloc (.cells (encP p T ⟨da, dn, dc⟩ ⟨ga, gn, gc⟩ ⟨xa, xn, xc⟩).toArray 35)) B1 := by rw [hB1]; exact (Grw.refl _).alloc _
  have OB := (Own.new w 35 (encP p T ⟨da, dn, dc⟩ ⟨ga, gn, gc⟩ ⟨xa, xn, xc⟩).toArray).below G1.below (by simp)
  rw [← hB1] at S0
  have c0 : B1.cell? ⟨w.heap.size, 0, none⟩ = some (.int .i64 9) := by rw [← hk]; exact OB.at_ 0 _ rfl
  have c1 : B1.cell? ⟨w.heap.size, 1, none⟩ = some (.int .i64 p.frm) := OB.at_ 1 _ rfl
  have c2 : B1.cell? ⟨w.heap.size, 2, none⟩ = some (.int .i64 p.to) := OB.at_ 2 _ rfl
  have ON := Own.new B1 35 (encP zeroP { data := #[] } Vc.nil Vc.nil Vc.nil).toArray
  rw [hz] at ON
  have HK := Lib.hid hk
  have HB := Lib.hid hB1
  have HS := Lib.hid S0
  clear hk hB1 S0 G1 OB
  rw [show (encP p T ⟨da, dn, dc⟩ ⟨ga, gn, gc⟩ ⟨xa, xn, xc⟩).toArray = #[.int .i64 p.kind, .int .i64 p.frm, .int .i64 p.to, .int .u64 (p.conf.e : Int), .int .i64 p.conf.r, .int .i64 p.m.f, .int .u32 (p.m.q : Int), .int .u64 (p.m.s : Int), .int .i64 p.m.v, .slice da dn dc, .string T, .int .u64 (p.stamp : Int), .int .u32 (p.sent : Int), .slice ga gn gc, .int .u64 (p.hor : Int), .int .i64 p.whom, .int .u32 (p.seq : Int), .int .u64 (p.mem : Int), .int .u64 (p.prom.e : Int), .int .i64 p.prom.r, .int .u64 (p.epoch : Int), .slice xa xn xc] from rfl]
  go_enter Try.func15, Try.ntmps15
  go_upto_region 1 with fail
  rw [show ((w.alloc (.cells #[.int .i64 p.kind, .int .i64 p.frm, .int .i64 p.to, .int .u64 (p.conf.e : Int), .int .i64 p.conf.r, .int .i64 p.m.f, .int .u32 (p.m.q : Int), .int .u64 (p.m.s : Int), .int .i64 p.m.v, .slice da dn dc, .string T, .int .u64 (p.stamp : Int), .int .u32 (p.sent : Int), .slice ga gn gc, .int .u64 (p.hor : Int), .int .i64 p.whom, .int .u32 (p.seq : Int), .int .u64 (p.mem : Int), .int .u64 (p.prom.e : Int), .int .i64 p.prom.r, .int .u64 (p.epoch : Int), .slice xa xn xc] 35)).alloc (.cells #[.int .i64 0, .int .i64 0, .int .i64 0, .int .u64 0, .int .i64 0, .int .i64 0, .int .u32 0, .int .u64 0, .int .i64 0, .slice none 0 0, .string { data := #[] }, .int .u64 0, .int .u32 0, .slice none 0 0, .int .u64 0, .int .i64 0, .int .u32 0, .int .u64 0, .int .u64 0, .int .i64 0, .int .u64 0, .slice none 0 0] 35)) = B1 from HB.out.symm]
  go_upto_region 2 with (refine store_packet (p := baseP 9 p.frm p.to) (T := { data := #[] }) (vd := Vc.nil) (vg := Vc.nil) (vx := Vc.nil) rfl (.tmp 3) (.tmp 11) rfl (w.heap.size + 2) rfl rfl ON ?_)
  have S1 := HS.out.shared
  clear HS c0 c1 c2 ON
  generalize hW1 : ((B1.alloc (.cells (encP zeroP { data := #[] } Vc.nil Vc.nil Vc.nil).toArray 35)).setRow (w.heap.size + 2) (encP (baseP 9 p.frm p.to) { data := #[] } Vc.nil Vc.nil Vc.nil).toArray) = W1 at S1
  rw [show ((B1.alloc (.cells #[.int .i64 0, .int .i64 0, .int .i64 0, .int .u64 0, .int .i64 0, .int .i64 0, .int .u32 0, .int .u64 0, .int .i64 0, .slice none 0 0, .string { data := #[] }, .int .u64 0, .int .u32 0, .slice none 0 0, .int .u64 0, .int .i64 0, .int .u32 0, .int .u64 0, .int .u64 0, .int .i64 0, .int .u64 0, .slice none 0 0] 35)).setRow (w.heap.size + 2) (encP (baseP 9 p.frm p.to) { data := #[] } Vc.nil Vc.nil Vc.nil).toArray) = W1 from hW1]
  clear hW1 HB hz
  obtain ⟨g, hg⟩ : ∃ g, g = w.heap.size + 2 := ⟨_, rfl⟩
  rw [← hg] at S1
  rw [← hg]
  have hne : g ≠ w.heap.size := by omega
  have hne2 : w.heap.size ≠ g := by omega
  clear hg B1
  have c0 : W1.cell? ⟨w.heap.size, 0, none⟩ = some (.int .i64 9) := by rw [← HK.out]; exact S1.box.at_ 0 _ rfl
  have c3 : W1.cell? ⟨w.heap.size, 3, none⟩ = some (.int .u64 (p.conf.e : Int)) := S1.box.at_ 3 _ rfl
  have c4 : W1.cell? ⟨w.heap.size, 4, none⟩ = some (.int .i64 p.conf.r) := S1.box.at_ 4 _ rfl
  have d3 : W1.cell? ⟨g, 3, none⟩ = some (.int .u64 0) := S1.row.at_ 3 _ rfl
  have f3 := S1.row.free 3
  have d4 : W1.cell? ⟨g, 4, none⟩ = some (.int .i64 0) := S1.row.at_ 4 _ rfl
  have f4 := S1.row.free 4
  go_upto_region 4 with fail
  go_wp2_with fail
  refine (row_9 W1).mono ?_
  rintro e w2 ⟨rfl, rfl⟩
  rw [show rowS 9 = { data := #[99, 119, 109] } from rfl]
  go_upto_region 6 with fail
  have S2 := (S1.set 3 (.int .u64 (p.conf.e : Int)) (q' := { baseP 9 p.frm p.to with conf := ⟨p.conf.e, 0⟩ }) (T2 := { data := #[] }) (sd := Vc.nil) (sg := Vc.nil) (sx := Vc.nil) rfl).set 4 (.int .i64 p.conf.r) (q' := { baseP 9 p.frm p.to with conf := p.conf }) (T2 := { data := #[] }) (sd := Vc.nil) (sg := Vc.nil) (sx := Vc.nil) rfl
  generalize ((W1.setCell ⟨g, 3, none⟩ (.int .u64 (p.conf.e : Int))).setCell ⟨g, 4, none⟩ (.int .i64 p.conf.r)) = W2 at *
  clear S1 c0 c3 c4 d3 d4 f3 f4
  have c1 : W2.cell? ⟨w.heap.size, 1, none⟩ = some (.int .i64 p.frm) := S2.box.at_ 1 _ rfl
  have c5 : W2.cell? ⟨w.heap.size, 5, none⟩ = some (.int .i64 p.m.f) := S2.box.at_ 5 _ rfl
  have c6 : W2.cell? ⟨w.heap.size, 6, none⟩ = some (.int .u32 (p.m.q : Int)) := S2.box.at_ 6 _ rfl
  have c7 : W2.cell? ⟨w.heap.size, 7, none⟩ = some (.int .u64 (p.m.s : Int)) := S2.box.at_ 7 _ rfl
  have c8 : W2.cell? ⟨w.heap.size, 8, none⟩ = some (.int .i64 p.m.v) := S2.box.at_ 8 _ rfl
  have c9 : W2.cell? ⟨w.heap.size, 9, none⟩ = some (.slice da dn dc) := S2.box.at_ 9 _ rfl
  have c10 : W2.cell? ⟨w.heap.size, 10, none⟩ = some (.string T) := S2.box.at_ 10 _ rfl
  have c15 : W2.cell? ⟨w.heap.size, 15, none⟩ = some (.int .i64 p.whom) := S2.box.at_ 15 _ rfl
  have d5 : W2.cell? ⟨g, 5, none⟩ = some (.int .i64 0) := S2.row.at_ 5 _ rfl
  have f5 := S2.row.free 5
  have d6 : W2.cell? ⟨g, 6, none⟩ = some (.int .u32 0) := S2.row.at_ 6 _ rfl
  have f6 := S2.row.free 6
  have d7 : W2.cell? ⟨g, 7, none⟩ = some (.int .u64 0) := S2.row.at_ 7 _ rfl
  have f7 := S2.row.free 7
  have d8 : W2.cell? ⟨g, 8, none⟩ = some (.int .i64 0) := S2.row.at_ 8 _ rfl
  have f8 := S2.row.free 8
  have d9 : W2.cell? ⟨g, 9, none⟩ = some (.slice none 0 0) := S2.row.at_ 9 _ rfl
  have f9 := S2.row.free 9
  have d10 : W2.cell? ⟨g, 10, none⟩ = some (.string { data := #[] }) := S2.row.at_ 10 _ rfl
  have f10 := S2.row.free 10
  have d15 : W2.cell? ⟨g, 15, none⟩ = some (.int .i64 0) := S2.row.at_ 15 _ rfl
  have f15 := S2.row.free 15
  have hb : ∀ w : World, Calls Try.prog 38 #[.string { data := #[99, 119, 109] }, .int .u8 98] w fun e w' => e = .returned (.bool false) ∧ w = w' := fun w => has_at { data := #[99, 119, 109] } 98 false (by decide) (by decide) (by decide) w
  have hl : ∀ w : World, Calls Try.prog 38 #[.string { data := #[99, 119, 109] }, .int .u8 108] w fun e w' => e = .returned (.bool false) ∧ w = w' := fun w => has_at { data := #[99, 119, 109] } 108 false (by decide) (by decide) (by decide) w
  have hm : ∀ w : World, Calls Try.prog 38 #[.string { data := #[99, 119, 109] }, .int .u8 109] w fun e w' => e = .returned (.bool true) ∧ w = w' := fun w => has_at { data := #[99, 119, 109] } 109 true (by decide) (by decide) (by decide) w
  have hp : ∀ w : World, Calls Try.prog 38 #[.string { data := #[99, 119, 109] }, .int .u8 112] w fun e w' => e = .returned (.bool false) ∧ w = w' := fun w => has_at { data := #[99, 119, 109] } 112 false (by decide) (by decide) (by decide) w
  have hq : ∀ w : World, Calls Try.prog 38 #[.string { data := #[99, 119, 109] }, .int .u8 113] w fun e w' => e = .returned (.bool false) ∧ w = w' := fun w => has_at { data := #[99, 119, 109] } 113 false (by decide) (by decide) (by decide) w
  have hs : ∀ w : World, Calls Try.prog 38 #[.string { data := #[99, 119, 109] }, .int .u8 115] w fun e w' => e = .returned (.bool false) ∧ w = w' := fun w => has_at { data := #[99, 119, 109] } 115 false (by decide) (by decide) (by decide) w
  have hw : ∀ w : World, Calls Try.prog 38 #[.string { data := #[99, 119, 109] }, .int .u8 119] w fun e w' => e = .returned (.bool true) ∧ w = w' := fun w => has_at { data := #[99, 119, 109] } 119 true (by decide) (by decide) (by decide) w
  have hx : ∀ w : World, Calls Try.prog 38 #[.string { data := #[99, 119, 109] }, .int .u8 120] w fun e w' => e = .returned (.bool false) ∧ w = w' := fun w => has_at { data := #[99, 119, 109] } 120 false (by decide) (by decide) (by decide) w
  go_upto_region 27 with (go_at_call 38; (first | (with_reducible refine (hb _).mono ?_) | (with_reducible refine (hl _).mono ?_) | (with_reducible refine (hm _).mono ?_) | (with_reducible refine (hp _).mono ?_) | (with_reducible refine (hq _).mono ?_) | (with_reducible refine (hs _).mono ?_) | (with_reducible refine (hw _).mono ?_) | (with_reducible refine (hx _).mono ?_)); rintro e w' ⟨rfl, rfl⟩)
  have U1 := S2.set 5 (.int .i64 p.m.f) (q' := { baseP 9 p.frm p.to with conf := p.conf, m := ⟨p.m.f, 0, 0, 0, [], []⟩ }) (T2 := { data := #[] }) (sd := Vc.nil) (sg := Vc.nil) (sx := Vc.nil) rfl
  have U2 := U1.set 6 (.int .u32 (p.m.q : Int)) (q' := { baseP 9 p.frm p.to with conf := p.conf, m := ⟨p.m.f, p.m.q, 0, 0, [], []⟩ }) (T2 := { data := #[] }) (sd := Vc.nil) (sg := Vc.nil) (sx := Vc.nil) rfl
  have U3 := U2.set 7 (.int .u64 (p.m.s : Int)) (q' := { baseP 9 p.frm p.to with conf := p.conf, m := ⟨p.m.f, p.m.q, p.m.s, 0, [], []⟩ }) (T2 := { data := #[] }) (sd := Vc.nil) (sg := Vc.nil) (sx := Vc.nil) rfl
  have U4 := U3.set 8 (.int .i64 p.m.v) (q' := { baseP 9 p.frm p.to with conf := p.conf, m := ⟨p.m.f, p.m.q, p.m.s, p.m.v, [], []⟩ }) (T2 := { data := #[] }) (sd := Vc.nil) (sg := Vc.nil) (sx := Vc.nil) rfl
  have U5 := U4.set 9 (.slice da dn dc) (q' := { baseP 9 p.frm p.to with conf := p.conf, m := ⟨p.m.f, p.m.q, p.m.s, p.m.v, p.m.deps, []⟩ }) (T2 := { data := #[] }) (sd := ⟨da, dn, dc⟩) (sg := Vc.nil) (sx := Vc.nil) rfl
  have U6 := U5.set 10 (.string T) (q' := { baseP 9 p.frm p.to with conf := p.conf, m := ⟨p.m.f, p.m.q, p.m.s, p.m.v, p.m.deps, p.m.text⟩ }) (T2 := T) (sd := ⟨da, dn, dc⟩) (sg := Vc.nil) (sx := Vc.nil) rfl
  have U7 := U6.set 5 (.int .i64 p.frm) (q' := { baseP 9 p.frm p.to with conf := p.conf, m := { p.m with f := p.frm } }) (T2 := T) (sd := ⟨da, dn, dc⟩) (sg := Vc.nil) (sx := Vc.nil) rfl
  have U8 := U7.set 15 (.int .i64 p.whom) (q' := { baseP 9 p.frm p.to with conf := p.conf, m := { p.m with f := p.frm }, whom := p.whom }) (T2 := T) (sd := ⟨da, dn, dc⟩) (sg := Vc.nil) (sx := Vc.nil) rfl
  have U9 := U8.set 5 (.int .i64 p.whom) (q' := { baseP 9 p.frm p.to with conf := p.conf, whom := p.whom, m := { p.m with f := p.whom } }) (T2 := T) (sd := ⟨da, dn, dc⟩) (sg := Vc.nil) (sx := Vc.nil) rfl
  have HE : Hid (cleanP p = { baseP 9 p.frm p.to with conf := p.conf, whom := p.whom, m := { p.m with f := p.whom } }) := Lib.hid (by unfold cleanP; rw [show rowP p = [.c, .w, .m] from by unfold rowP; rw [HK.out]; rfl, HK.out]; rfl)
  have SZ := U9
  go_wp2_with (first | (refine load_packet rfl (.tmp 3) rfl g rfl SZ.row ?_) | (refine store_packet rfl (.tmp 2) (.tmp 88) rfl (w.heap.size + 1) rfl rfl SZ.res ?_))
  (try simp only [Exit.inBlock, Exit.then])
  refine bodyPost_ret (results_packet rfl _ _ (w.heap.size + 1) rfl (SZ.res.row _)) rfl ?_
  exact SZ.done HE.out ⟨HT.out.text, HT.out.deps, (OwnVec.nil 0 w).at_, (OwnXs.nil 0 w).at_⟩
end Go.Proofs.Ytgkddjapcdjalaa

/- The document's Clean: kind 10. (Written by wip/gen_refclean.py.) -/
set_option linter.unusedVariables false
set_option linter.unusedSimpArgs false
namespace Go.Proofs.Ytgkddjapcdjalaa
open Go.RowKit Go.Sort

set_option maxHeartbeats 4000000 in
set_option maxRecDepth 100000 in
theorem rclean_10 (w : World) (p : Pk) (T : ByteArray) (vd vg vx : Vc) (ht : PkAt w p T vd vg vx) (hsm : Small p) (hk : p.kind = 10) :
    Calls Try.prog 15 #[.agg (encP p T vd vg vx).toArray] w (RcPost w p) := by
  obtain ⟨da, dn, dc⟩ := vd
  obtain ⟨ga, gn, gc⟩ := vg
  obtain ⟨xa, xn, xc⟩ := vx
  have S0 := CSt.new (w := w) p T ⟨da, dn, dc⟩ ⟨ga, gn, gc⟩ ⟨xa, xn, xc⟩ 10 p.frm p.to
  have hd : dn ≤ 1048576 := by have := ht.deps.len; simp only at this; rw [← this]; exact hsm.deps
  have hgn : gn ≤ 1048576 := by have := ht.got.len; simp only at this; rw [← this]; exact hsm.got
  have hxn : xn ≤ 1048576 := by have := ht.xs.len; simp only at this; rw [← this]; exact hsm.xs
  have hT : T.size ≤ 1048576 := by rw [size_text ht.text]; exact hsm.text
  have HC : Hid (∀ x ∈ p.x, x.cnt.length ≤ 1048576) := Lib.hid hsm.cnt
  have HT := Lib.hid ht
  clear ht hsm
  obtain ⟨B1, hB1⟩ : ∃ B1, B1 = (w.alloc (.cells (encP p T ⟨da, dn, dc⟩ ⟨ga, gn, gc⟩ ⟨xa, xn, xc⟩).toArray 35)).alloc (.cells (encP zeroP { data := #[] } Vc.nil Vc.nil Vc.nil).toArray 35) := ⟨_, rfl⟩
  have hz : B1.heap.size = w.heap.size + 2 := by rw [hB1]; simp
  have G1 : Grw (w.alloc (.cells (encP p T ⟨da, dn, dc⟩ ⟨ga, gn, gc⟩ ⟨xa, xn, xc⟩).toArray 35)) B1 := by rw [hB1]; exact (Grw.refl _).alloc _
  have OB := (Own.new w 35 (encP p T ⟨da, dn, dc⟩ ⟨ga, gn, gc⟩ ⟨xa, xn, xc⟩).toArray).below G1.below (by simp)
  rw [← hB1] at S0
  have c0 : B1.cell? ⟨w.heap.size, 0, none⟩ = some (.int .i64 10) := by rw [← hk]; exact OB.at_ 0 _ rfl
  have c1 : B1.cell? ⟨w.heap.size, 1, none⟩ = some (.int .i64 p.frm) := OB.at_ 1 _ rfl
  have c2 : B1.cell? ⟨w.heap.size, 2, none⟩ = some (.int .i64 p.to) := OB.at_ 2 _ rfl
  have ON := Own.new B1 35 (encP zeroP { data := #[] } Vc.nil Vc.nil Vc.nil).toArray
  rw [hz] at ON
  have HK := Lib.hid hk
  have HB := Lib.hid hB1
  have HS := Lib.hid S0
  clear hk hB1 S0 G1 OB
  rw [show (encP p T ⟨da, dn, dc⟩ ⟨ga, gn, gc⟩ ⟨xa, xn, xc⟩).toArray = #[.int .i64 p.kind, .int .i64 p.frm, .int .i64 p.to, .int .u64 (p.conf.e : Int), .int .i64 p.conf.r, .int .i64 p.m.f, .int .u32 (p.m.q : Int), .int .u64 (p.m.s : Int), .int .i64 p.m.v, .slice da dn dc, .string T, .int .u64 (p.stamp : Int), .int .u32 (p.sent : Int), .slice ga gn gc, .int .u64 (p.hor : Int), .int .i64 p.whom, .int .u32 (p.seq : Int), .int .u64 (p.mem : Int), .int .u64 (p.prom.e : Int), .int .i64 p.prom.r, .int .u64 (p.epoch : Int), .slice xa xn xc] from rfl]
  go_enter Try.func15, Try.ntmps15
  go_upto_region 1 with fail
  rw [show ((w.alloc (.cells #[.int .i64 p.kind, .int .i64 p.frm, .int .i64 p.to, .int .u64 (p.conf.e : Int), .int .i64 p.conf.r, .int .i64 p.m.f, .int .u32 (p.m.q : Int), .int .u64 (p.m.s : Int), .int .i64 p.m.v, .slice da dn dc, .string T, .int .u64 (p.stamp : Int), .int .u32 (p.sent : Int), .slice ga gn gc, .int .u64 (p.hor : Int), .int .i64 p.whom, .int .u32 (p.seq : Int), .int .u64 (p.mem : Int), .int .u64 (p.prom.e : Int), .int .i64 p.prom.r, .int .u64 (p.epoch : Int), .slice xa xn xc] 35)).alloc (.cells #[.int .i64 0, .int .i64 0, .int .i64 0, .int .u64 0, .int .i64 0, .int .i64 0, .int .u32 0, .int .u64 0, .int .i64 0, .slice none 0 0, .string { data := #[] }, .int .u64 0, .int .u32 0, .slice none 0 0, .int .u64 0, .int .i64 0, .int .u32 0, .int .u64 0, .int .u64 0, .int .i64 0, .int .u64 0, .slice none 0 0] 35)) = B1 from HB.out.symm]
  go_upto_region 2 with (refine store_packet (p := baseP 10 p.frm p.to) (T := { data := #[] }) (vd := Vc.nil) (vg := Vc.nil) (vx := Vc.nil) rfl (.tmp 3) (.tmp 11) rfl (w.heap.size + 2) rfl rfl ON ?_)
  have S1 := HS.out.shared
  clear HS c0 c1 c2 ON
  generalize hW1 : ((B1.alloc (.cells (encP zeroP { data := #[] } Vc.nil Vc.nil Vc.nil).toArray 35)).setRow (w.heap.size + 2) (encP (baseP 10 p.frm p.to) { data := #[] } Vc.nil Vc.nil Vc.nil).toArray) = W1 at S1
  rw [show ((B1.alloc (.cells #[.int .i64 0, .int .i64 0, .int .i64 0, .int .u64 0, .int .i64 0, .int .i64 0, .int .u32 0, .int .u64 0, .int .i64 0, .slice none 0 0, .string { data := #[] }, .int .u64 0, .int .u32 0, .slice none 0 0, .int .u64 0, .int .i64 0, .int .u32 0, .int .u64 0, .int .u64 0, .int .i64 0, .int .u64 0, .slice none 0 0] 35)).setRow (w.heap.size + 2) (encP (baseP 10 p.frm p.to) { data := #[] } Vc.nil Vc.nil Vc.nil).toArray) = W1 from hW1]
  clear hW1 HB hz
  obtain ⟨g, hg⟩ : ∃ g, g = w.heap.size + 2 := ⟨_, rfl⟩
  rw [← hg] at S1
  rw [← hg]
  have hne : g ≠ w.heap.size := by omega
  have hne2 : w.heap.size ≠ g := by omega
  clear hg B1
  have c0 : W1.cell? ⟨w.heap.size, 0, none⟩ = some (.int .i64 10) := by rw [← HK.out]; exact S1.box.at_ 0 _ rfl
  have c3 : W1.cell? ⟨w.heap.size, 3, none⟩ = some (.int .u64 (p.conf.e : Int)) := S1.box.at_ 3 _ rfl
  have c4 : W1.cell? ⟨w.heap.size, 4, none⟩ = some (.int .i64 p.conf.r) := S1.box.at_ 4 _ rfl
  have d3 : W1.cell? ⟨g, 3, none⟩ = some (.int .u64 0) := S1.row.at_ 3 _ rfl
  have f3 := S1.row.free 3
  have d4 : W1.cell? ⟨g, 4, none⟩ = some (.int .i64 0) := S1.row.at_ 4 _ rfl
  have f4 := S1.row.free 4
  go_upto_region 4 with fail
  go_wp2_with fail
  refine (row_10 W1).mono ?_
  rintro e w2 ⟨rfl, rfl⟩
  rw [show rowS 10 = { data := #[99] } from rfl]
  go_upto_region 6 with fail
  have S2 := (S1.set 3 (.int .u64 (p.conf.e : Int)) (q' := { baseP 10 p.frm p.to with conf := ⟨p.conf.e, 0⟩ }) (T2 := { data := #[] }) (sd := Vc.nil) (sg := Vc.nil) (sx := Vc.nil) rfl).set 4 (.int .i64 p.conf.r) (q' := { baseP 10 p.frm p.to with conf := p.conf }) (T2 := { data := #[] }) (sd := Vc.nil) (sg := Vc.nil) (sx := Vc.nil) rfl
  generalize ((W1.setCell ⟨g, 3, none⟩ (.int .u64 (p.conf.e : Int))).setCell ⟨g, 4, none⟩ (.int .i64 p.conf.r)) = W2 at *
  clear S1 c0 c3 c4 d3 d4 f3 f4
  have hb : ∀ w : World, Calls Try.prog 38 #[.string { data := #[99] }, .int .u8 98] w fun e w' => e = .returned (.bool false) ∧ w = w' := fun w => has_at { data := #[99] } 98 false (by decide) (by decide) (by decide) w
  have hl : ∀ w : World, Calls Try.prog 38 #[.string { data := #[99] }, .int .u8 108] w fun e w' => e = .returned (.bool false) ∧ w = w' := fun w => has_at { data := #[99] } 108 false (by decide) (by decide) (by decide) w
  have hm : ∀ w : World, Calls Try.prog 38 #[.string { data := #[99] }, .int .u8 109] w fun e w' => e = .returned (.bool false) ∧ w = w' := fun w => has_at { data := #[99] } 109 false (by decide) (by decide) (by decide) w
  have hp : ∀ w : World, Calls Try.prog 38 #[.string { data := #[99] }, .int .u8 112] w fun e w' => e = .returned (.bool false) ∧ w = w' := fun w => has_at { data := #[99] } 112 false (by decide) (by decide) (by decide) w
  have hq : ∀ w : World, Calls Try.prog 38 #[.string { data := #[99] }, .int .u8 113] w fun e w' => e = .returned (.bool false) ∧ w = w' := fun w => has_at { data := #[99] } 113 false (by decide) (by decide) (by decide) w
  have hs : ∀ w : World, Calls Try.prog 38 #[.string { data := #[99] }, .int .u8 115] w fun e w' => e = .returned (.bool false) ∧ w = w' := fun w => has_at { data := #[99] } 115 false (by decide) (by decide) (by decide) w
  have hw : ∀ w : World, Calls Try.prog 38 #[.string { data := #[99] }, .int .u8 119] w fun e w' => e = .returned (.bool false) ∧ w = w' := fun w => has_at { data := #[99] } 119 false (by decide) (by decide) (by decide) w
  have hx : ∀ w : World, Calls Try.prog 38 #[.string { data := #[99] }, .int .u8 120] w fun e w' => e = .returned (.bool false) ∧ w = w' := fun w => has_at { data := #[99] } 120 false (by decide) (by decide) (by decide) w
  go_upto_region 27 with (go_at_call 38; (first | (with_reducible refine (hb _).mono ?_) | (with_reducible refine (hl _).mono ?_) | (with_reducible refine (hm _).mono ?_) | (with_reducible refine (hp _).mono ?_) | (with_reducible refine (hq _).mono ?_) | (with_reducible refine (hs _).mono ?_) | (with_reducible refine (hw _).mono ?_) | (with_reducible refine (hx _).mono ?_)); rintro e w' ⟨rfl, rfl⟩)
  have HE : Hid (cleanP p = { baseP 10 p.frm p.to with conf := p.conf }) := Lib.hid (by unfold cleanP; rw [show rowP p = [.c] from by unfold rowP; rw [HK.out]; rfl, HK.out]; rfl)
  have SZ := S2
  go_wp2_with (first | (refine load_packet rfl (.tmp 3) rfl g rfl SZ.row ?_) | (refine store_packet rfl (.tmp 2) (.tmp 88) rfl (w.heap.size + 1) rfl rfl SZ.res ?_))
  (try simp only [Exit.inBlock, Exit.then])
  refine bodyPost_ret (results_packet rfl _ _ (w.heap.size + 1) rfl (SZ.res.row _)) rfl ?_
  exact SZ.done HE.out ⟨rfl, (OwnVec.nil 0 w).at_, (OwnVec.nil 0 w).at_, (OwnXs.nil 0 w).at_⟩
end Go.Proofs.Ytgkddjapcdjalaa

/- The document's Clean: kind 11. (Written by wip/gen_refclean.py.) -/
set_option linter.unusedVariables false
set_option linter.unusedSimpArgs false
namespace Go.Proofs.Ytgkddjapcdjalaa
open Go.RowKit Go.Sort

set_option maxHeartbeats 4000000 in
set_option maxRecDepth 100000 in
theorem rclean_11 (w : World) (p : Pk) (T : ByteArray) (vd vg vx : Vc) (ht : PkAt w p T vd vg vx) (hsm : Small p) (hk : p.kind = 11) :
    Calls Try.prog 15 #[.agg (encP p T vd vg vx).toArray] w (RcPost w p) := by
  obtain ⟨da, dn, dc⟩ := vd
  obtain ⟨ga, gn, gc⟩ := vg
  obtain ⟨xa, xn, xc⟩ := vx
  have S0 := CSt.new (w := w) p T ⟨da, dn, dc⟩ ⟨ga, gn, gc⟩ ⟨xa, xn, xc⟩ 11 p.frm p.to
  have hd : dn ≤ 1048576 := by have := ht.deps.len; simp only at this; rw [← this]; exact hsm.deps
  have hgn : gn ≤ 1048576 := by have := ht.got.len; simp only at this; rw [← this]; exact hsm.got
  have hxn : xn ≤ 1048576 := by have := ht.xs.len; simp only at this; rw [← this]; exact hsm.xs
  have hT : T.size ≤ 1048576 := by rw [size_text ht.text]; exact hsm.text
  have HC : Hid (∀ x ∈ p.x, x.cnt.length ≤ 1048576) := Lib.hid hsm.cnt
  have HT := Lib.hid ht
  clear ht hsm
  obtain ⟨B1, hB1⟩ : ∃ B1, B1 = (w.alloc (.cells (encP p T ⟨da, dn, dc⟩ ⟨ga, gn, gc⟩ ⟨xa, xn, xc⟩).toArray 35)).alloc (.cells (encP zeroP { data := #[] } Vc.nil Vc.nil Vc.nil).toArray 35) := ⟨_, rfl⟩
  have hz : B1.heap.size = w.heap.size + 2 := by rw [hB1]; simp
  have G1 : Grw (w.alloc (.cells (encP p T ⟨da, dn, dc⟩ ⟨ga, gn, gc⟩ ⟨xa, xn, xc⟩).toArray 35)) B1 := by rw [hB1]; exact (Grw.refl _).alloc _
  have OB := (Own.new w 35 (encP p T ⟨da, dn, dc⟩ ⟨ga, gn, gc⟩ ⟨xa, xn, xc⟩).toArray).below G1.below (by simp)
  rw [← hB1] at S0
  have c0 : B1.cell? ⟨w.heap.size, 0, none⟩ = some (.int .i64 11) := by rw [← hk]; exact OB.at_ 0 _ rfl
  have c1 : B1.cell? ⟨w.heap.size, 1, none⟩ = some (.int .i64 p.frm) := OB.at_ 1 _ rfl
  have c2 : B1.cell? ⟨w.heap.size, 2, none⟩ = some (.int .i64 p.to) := OB.at_ 2 _ rfl
  have ON := Own.new B1 35 (encP zeroP { data := #[] } Vc.nil Vc.nil Vc.nil).toArray
  rw [hz] at ON
  have HK := Lib.hid hk
  have HB := Lib.hid hB1
  have HS := Lib.hid S0
  clear hk hB1 S0 G1 OB
  rw [show (encP p T ⟨da, dn, dc⟩ ⟨ga, gn, gc⟩ ⟨xa, xn, xc⟩).toArray = #[.int .i64 p.kind, .int .i64 p.frm, .int .i64 p.to, .int .u64 (p.conf.e : Int), .int .i64 p.conf.r, .int .i64 p.m.f, .int .u32 (p.m.q : Int), .int .u64 (p.m.s : Int), .int .i64 p.m.v, .slice da dn dc, .string T, .int .u64 (p.stamp : Int), .int .u32 (p.sent : Int), .slice ga gn gc, .int .u64 (p.hor : Int), .int .i64 p.whom, .int .u32 (p.seq : Int), .int .u64 (p.mem : Int), .int .u64 (p.prom.e : Int), .int .i64 p.prom.r, .int .u64 (p.epoch : Int), .slice xa xn xc] from rfl]
  go_enter Try.func15, Try.ntmps15
  go_upto_region 1 with fail
  rw [show ((w.alloc (.cells #[.int .i64 p.kind, .int .i64 p.frm, .int .i64 p.to, .int .u64 (p.conf.e : Int), .int .i64 p.conf.r, .int .i64 p.m.f, .int .u32 (p.m.q : Int), .int .u64 (p.m.s : Int), .int .i64 p.m.v, .slice da dn dc, .string T, .int .u64 (p.stamp : Int), .int .u32 (p.sent : Int), .slice ga gn gc, .int .u64 (p.hor : Int), .int .i64 p.whom, .int .u32 (p.seq : Int), .int .u64 (p.mem : Int), .int .u64 (p.prom.e : Int), .int .i64 p.prom.r, .int .u64 (p.epoch : Int), .slice xa xn xc] 35)).alloc (.cells #[.int .i64 0, .int .i64 0, .int .i64 0, .int .u64 0, .int .i64 0, .int .i64 0, .int .u32 0, .int .u64 0, .int .i64 0, .slice none 0 0, .string { data := #[] }, .int .u64 0, .int .u32 0, .slice none 0 0, .int .u64 0, .int .i64 0, .int .u32 0, .int .u64 0, .int .u64 0, .int .i64 0, .int .u64 0, .slice none 0 0] 35)) = B1 from HB.out.symm]
  go_upto_region 2 with (refine store_packet (p := baseP 11 p.frm p.to) (T := { data := #[] }) (vd := Vc.nil) (vg := Vc.nil) (vx := Vc.nil) rfl (.tmp 3) (.tmp 11) rfl (w.heap.size + 2) rfl rfl ON ?_)
  have S1 := HS.out.shared
  clear HS c0 c1 c2 ON
  generalize hW1 : ((B1.alloc (.cells (encP zeroP { data := #[] } Vc.nil Vc.nil Vc.nil).toArray 35)).setRow (w.heap.size + 2) (encP (baseP 11 p.frm p.to) { data := #[] } Vc.nil Vc.nil Vc.nil).toArray) = W1 at S1
  rw [show ((B1.alloc (.cells #[.int .i64 0, .int .i64 0, .int .i64 0, .int .u64 0, .int .i64 0, .int .i64 0, .int .u32 0, .int .u64 0, .int .i64 0, .slice none 0 0, .string { data := #[] }, .int .u64 0, .int .u32 0, .slice none 0 0, .int .u64 0, .int .i64 0, .int .u32 0, .int .u64 0, .int .u64 0, .int .i64 0, .int .u64 0, .slice none 0 0] 35)).setRow (w.heap.size + 2) (encP (baseP 11 p.frm p.to) { data := #[] } Vc.nil Vc.nil Vc.nil).toArray) = W1 from hW1]
  clear hW1 HB hz
  obtain ⟨g, hg⟩ : ∃ g, g = w.heap.size + 2 := ⟨_, rfl⟩
  rw [← hg] at S1
  rw [← hg]
  have hne : g ≠ w.heap.size := by omega
  have hne2 : w.heap.size ≠ g := by omega
  clear hg B1
  have c0 : W1.cell? ⟨w.heap.size, 0, none⟩ = some (.int .i64 11) := by rw [← HK.out]; exact S1.box.at_ 0 _ rfl
  have c3 : W1.cell? ⟨w.heap.size, 3, none⟩ = some (.int .u64 (p.conf.e : Int)) := S1.box.at_ 3 _ rfl
  have c4 : W1.cell? ⟨w.heap.size, 4, none⟩ = some (.int .i64 p.conf.r) := S1.box.at_ 4 _ rfl
  have d3 : W1.cell? ⟨g, 3, none⟩ = some (.int .u64 0) := S1.row.at_ 3 _ rfl
  have f3 := S1.row.free 3
  have d4 : W1.cell? ⟨g, 4, none⟩ = some (.int .i64 0) := S1.row.at_ 4 _ rfl
  have f4 := S1.row.free 4
  go_upto_region 4 with fail
  go_wp2_with fail
  refine (row_11 W1).mono ?_
  rintro e w2 ⟨rfl, rfl⟩
  rw [show rowS 11 = { data := #[99] } from rfl]
  go_upto_region 6 with fail
  have S2 := (S1.set 3 (.int .u64 (p.conf.e : Int)) (q' := { baseP 11 p.frm p.to with conf := ⟨p.conf.e, 0⟩ }) (T2 := { data := #[] }) (sd := Vc.nil) (sg := Vc.nil) (sx := Vc.nil) rfl).set 4 (.int .i64 p.conf.r) (q' := { baseP 11 p.frm p.to with conf := p.conf }) (T2 := { data := #[] }) (sd := Vc.nil) (sg := Vc.nil) (sx := Vc.nil) rfl
  generalize ((W1.setCell ⟨g, 3, none⟩ (.int .u64 (p.conf.e : Int))).setCell ⟨g, 4, none⟩ (.int .i64 p.conf.r)) = W2 at *
  clear S1 c0 c3 c4 d3 d4 f3 f4
  have hb : ∀ w : World, Calls Try.prog 38 #[.string { data := #[99] }, .int .u8 98] w fun e w' => e = .returned (.bool false) ∧ w = w' := fun w => has_at { data := #[99] } 98 false (by decide) (by decide) (by decide) w
  have hl : ∀ w : World, Calls Try.prog 38 #[.string { data := #[99] }, .int .u8 108] w fun e w' => e = .returned (.bool false) ∧ w = w' := fun w => has_at { data := #[99] } 108 false (by decide) (by decide) (by decide) w
  have hm : ∀ w : World, Calls Try.prog 38 #[.string { data := #[99] }, .int .u8 109] w fun e w' => e = .returned (.bool false) ∧ w = w' := fun w => has_at { data := #[99] } 109 false (by decide) (by decide) (by decide) w
  have hp : ∀ w : World, Calls Try.prog 38 #[.string { data := #[99] }, .int .u8 112] w fun e w' => e = .returned (.bool false) ∧ w = w' := fun w => has_at { data := #[99] } 112 false (by decide) (by decide) (by decide) w
  have hq : ∀ w : World, Calls Try.prog 38 #[.string { data := #[99] }, .int .u8 113] w fun e w' => e = .returned (.bool false) ∧ w = w' := fun w => has_at { data := #[99] } 113 false (by decide) (by decide) (by decide) w
  have hs : ∀ w : World, Calls Try.prog 38 #[.string { data := #[99] }, .int .u8 115] w fun e w' => e = .returned (.bool false) ∧ w = w' := fun w => has_at { data := #[99] } 115 false (by decide) (by decide) (by decide) w
  have hw : ∀ w : World, Calls Try.prog 38 #[.string { data := #[99] }, .int .u8 119] w fun e w' => e = .returned (.bool false) ∧ w = w' := fun w => has_at { data := #[99] } 119 false (by decide) (by decide) (by decide) w
  have hx : ∀ w : World, Calls Try.prog 38 #[.string { data := #[99] }, .int .u8 120] w fun e w' => e = .returned (.bool false) ∧ w = w' := fun w => has_at { data := #[99] } 120 false (by decide) (by decide) (by decide) w
  go_upto_region 27 with (go_at_call 38; (first | (with_reducible refine (hb _).mono ?_) | (with_reducible refine (hl _).mono ?_) | (with_reducible refine (hm _).mono ?_) | (with_reducible refine (hp _).mono ?_) | (with_reducible refine (hq _).mono ?_) | (with_reducible refine (hs _).mono ?_) | (with_reducible refine (hw _).mono ?_) | (with_reducible refine (hx _).mono ?_)); rintro e w' ⟨rfl, rfl⟩)
  have HE : Hid (cleanP p = { baseP 11 p.frm p.to with conf := p.conf }) := Lib.hid (by unfold cleanP; rw [show rowP p = [.c] from by unfold rowP; rw [HK.out]; rfl, HK.out]; rfl)
  have SZ := S2
  go_wp2_with (first | (refine load_packet rfl (.tmp 3) rfl g rfl SZ.row ?_) | (refine store_packet rfl (.tmp 2) (.tmp 88) rfl (w.heap.size + 1) rfl rfl SZ.res ?_))
  (try simp only [Exit.inBlock, Exit.then])
  refine bodyPost_ret (results_packet rfl _ _ (w.heap.size + 1) rfl (SZ.res.row _)) rfl ?_
  exact SZ.done HE.out ⟨rfl, (OwnVec.nil 0 w).at_, (OwnVec.nil 0 w).at_, (OwnXs.nil 0 w).at_⟩
end Go.Proofs.Ytgkddjapcdjalaa

/- The document's Clean: every kind. (Written by wip/gen_refclean.py.) -/
set_option linter.unusedVariables false
set_option linter.unusedSimpArgs false
namespace Go.Proofs.Ytgkddjapcdjalaa
open Go.RowKit Go.Sort

set_option maxHeartbeats 4000000 in
set_option maxRecDepth 100000 in
theorem rclean_low (w : World) (p : Pk) (T : ByteArray) (vd vg vx : Vc) (ht : PkAt w p T vd vg vx) (hsm : Small p) (hk : p.kind < 1) :
    Calls Try.prog 15 #[.agg (encP p T vd vg vx).toArray] w (RcPost w p) := by
  obtain ⟨da, dn, dc⟩ := vd
  obtain ⟨ga, gn, gc⟩ := vg
  obtain ⟨xa, xn, xc⟩ := vx
  have S0 := CSt.new (w := w) p T ⟨da, dn, dc⟩ ⟨ga, gn, gc⟩ ⟨xa, xn, xc⟩ p.kind p.frm p.to
  have hd : dn ≤ 1048576 := by have := ht.deps.len; simp only at this; rw [← this]; exact hsm.deps
  have hgn : gn ≤ 1048576 := by have := ht.got.len; simp only at this; rw [← this]; exact hsm.got
  have hxn : xn ≤ 1048576 := by have := ht.xs.len; simp only at this; rw [← this]; exact hsm.xs
  have hT : T.size ≤ 1048576 := by rw [size_text ht.text]; exact hsm.text
  have HC : Hid (∀ x ∈ p.x, x.cnt.length ≤ 1048576) := Lib.hid hsm.cnt
  have HT := Lib.hid ht
  clear ht hsm
  obtain ⟨B1, hB1⟩ : ∃ B1, B1 = (w.alloc (.cells (encP p T ⟨da, dn, dc⟩ ⟨ga, gn, gc⟩ ⟨xa, xn, xc⟩).toArray 35)).alloc (.cells (encP zeroP { data := #[] } Vc.nil Vc.nil Vc.nil).toArray 35) := ⟨_, rfl⟩
  have hz : B1.heap.size = w.heap.size + 2 := by rw [hB1]; simp
  have G1 : Grw (w.alloc (.cells (encP p T ⟨da, dn, dc⟩ ⟨ga, gn, gc⟩ ⟨xa, xn, xc⟩).toArray 35)) B1 := by rw [hB1]; exact (Grw.refl _).alloc _
  have OB := (Own.new w 35 (encP p T ⟨da, dn, dc⟩ ⟨ga, gn, gc⟩ ⟨xa, xn, xc⟩).toArray).below G1.below (by simp)
  rw [← hB1] at S0
  have c0 : B1.cell? ⟨w.heap.size, 0, none⟩ = some (.int .i64 p.kind) := OB.at_ 0 _ rfl
  have c1 : B1.cell? ⟨w.heap.size, 1, none⟩ = some (.int .i64 p.frm) := OB.at_ 1 _ rfl
  have c2 : B1.cell? ⟨w.heap.size, 2, none⟩ = some (.int .i64 p.to) := OB.at_ 2 _ rfl
  have ON := Own.new B1 35 (encP zeroP { data := #[] } Vc.nil Vc.nil Vc.nil).toArray
  rw [hz] at ON
  have HK := Lib.hid hk
  have HB := Lib.hid hB1
  have HS := Lib.hid S0
  clear hk hB1 S0 G1 OB
  rw [show (encP p T ⟨da, dn, dc⟩ ⟨ga, gn, gc⟩ ⟨xa, xn, xc⟩).toArray = #[.int .i64 p.kind, .int .i64 p.frm, .int .i64 p.to, .int .u64 (p.conf.e : Int), .int .i64 p.conf.r, .int .i64 p.m.f, .int .u32 (p.m.q : Int), .int .u64 (p.m.s : Int), .int .i64 p.m.v, .slice da dn dc, .string T, .int .u64 (p.stamp : Int), .int .u32 (p.sent : Int), .slice ga gn gc, .int .u64 (p.hor : Int), .int .i64 p.whom, .int .u32 (p.seq : Int), .int .u64 (p.mem : Int), .int .u64 (p.prom.e : Int), .int .i64 p.prom.r, .int .u64 (p.epoch : Int), .slice xa xn xc] from rfl]
  go_enter Try.func15, Try.ntmps15
  go_upto_region 1 with fail
  rw [show ((w.alloc (.cells #[.int .i64 p.kind, .int .i64 p.frm, .int .i64 p.to, .int .u64 (p.conf.e : Int), .int .i64 p.conf.r, .int .i64 p.m.f, .int .u32 (p.m.q : Int), .int .u64 (p.m.s : Int), .int .i64 p.m.v, .slice da dn dc, .string T, .int .u64 (p.stamp : Int), .int .u32 (p.sent : Int), .slice ga gn gc, .int .u64 (p.hor : Int), .int .i64 p.whom, .int .u32 (p.seq : Int), .int .u64 (p.mem : Int), .int .u64 (p.prom.e : Int), .int .i64 p.prom.r, .int .u64 (p.epoch : Int), .slice xa xn xc] 35)).alloc (.cells #[.int .i64 0, .int .i64 0, .int .i64 0, .int .u64 0, .int .i64 0, .int .i64 0, .int .u32 0, .int .u64 0, .int .i64 0, .slice none 0 0, .string { data := #[] }, .int .u64 0, .int .u32 0, .slice none 0 0, .int .u64 0, .int .i64 0, .int .u32 0, .int .u64 0, .int .u64 0, .int .i64 0, .int .u64 0, .slice none 0 0] 35)) = B1 from HB.out.symm]
  go_upto_region 2 with (refine store_packet (p := baseP p.kind p.frm p.to) (T := { data := #[] }) (vd := Vc.nil) (vg := Vc.nil) (vx := Vc.nil) rfl (.tmp 3) (.tmp 11) rfl (w.heap.size + 2) rfl rfl ON ?_)
  have S1 := HS.out.shared
  clear HS c0 c1 c2 ON
  generalize hW1 : ((B1.alloc (.cells (encP zeroP { data := #[] } Vc.nil Vc.nil Vc.nil).toArray 35)).setRow (w.heap.size + 2) (encP (baseP p.kind p.frm p.to) { data := #[] } Vc.nil Vc.nil Vc.nil).toArray) = W1 at S1
  rw [show ((B1.alloc (.cells #[.int .i64 0, .int .i64 0, .int .i64 0, .int .u64 0, .int .i64 0, .int .i64 0, .int .u32 0, .int .u64 0, .int .i64 0, .slice none 0 0, .string { data := #[] }, .int .u64 0, .int .u32 0, .slice none 0 0, .int .u64 0, .int .i64 0, .int .u32 0, .int .u64 0, .int .u64 0, .int .i64 0, .int .u64 0, .slice none 0 0] 35)).setRow (w.heap.size + 2) (encP (baseP p.kind p.frm p.to) { data := #[] } Vc.nil Vc.nil Vc.nil).toArray) = W1 from hW1]
  clear hW1 HB hz
  obtain ⟨g, hg⟩ : ∃ g, g = w.heap.size + 2 := ⟨_, rfl⟩
  rw [← hg] at S1
  rw [← hg]
  have hne : g ≠ w.heap.size := by omega
  have hne2 : w.heap.size ≠ g := by omega
  clear hg B1
  have c0 : W1.cell? ⟨w.heap.size, 0, none⟩ = some (.int .i64 p.kind) := S1.box.at_ 0 _ rfl
  have hk := HK.out
  go_upto_region 3 with fail
  go_wp2_with (first | (refine load_packet rfl (.tmp 3) rfl g rfl S1.row ?_) | (refine store_packet rfl (.tmp 2) (.tmp 20) rfl (w.heap.size + 1) rfl rfl S1.res ?_))
  (try simp only [Exit.inBlock, Exit.then])
  refine bodyPost_ret (results_packet rfl _ _ (w.heap.size + 1) rfl (S1.res.row _)) rfl ?_
  exact S1.done (by unfold cleanP; rw [show rowP p = [] from by unfold rowP; rw [if_neg (by omega)]]; rfl) ⟨rfl, (OwnVec.nil 0 w).at_, (OwnVec.nil 0 w).at_, (OwnXs.nil 0 w).at_⟩

set_option maxHeartbeats 4000000 in
set_option maxRecDepth 100000 in
theorem rclean_high (w : World) (p : Pk) (T : ByteArray) (vd vg vx : Vc) (ht : PkAt w p T vd vg vx) (hsm : Small p) (hk : 11 < p.kind) :
    Calls Try.prog 15 #[.agg (encP p T vd vg vx).toArray] w (RcPost w p) := by
  obtain ⟨da, dn, dc⟩ := vd
  obtain ⟨ga, gn, gc⟩ := vg
  obtain ⟨xa, xn, xc⟩ := vx
  have S0 := CSt.new (w := w) p T ⟨da, dn, dc⟩ ⟨ga, gn, gc⟩ ⟨xa, xn, xc⟩ p.kind p.frm p.to
  have hd : dn ≤ 1048576 := by have := ht.deps.len; simp only at this; rw [← this]; exact hsm.deps
  have hgn : gn ≤ 1048576 := by have := ht.got.len; simp only at this; rw [← this]; exact hsm.got
  have hxn : xn ≤ 1048576 := by have := ht.xs.len; simp only at this; rw [← this]; exact hsm.xs
  have hT : T.size ≤ 1048576 := by rw [size_text ht.text]; exact hsm.text
  have HC : Hid (∀ x ∈ p.x, x.cnt.length ≤ 1048576) := Lib.hid hsm.cnt
  have HT := Lib.hid ht
  clear ht hsm
  obtain ⟨B1, hB1⟩ : ∃ B1, B1 = (w.alloc (.cells (encP p T ⟨da, dn, dc⟩ ⟨ga, gn, gc⟩ ⟨xa, xn, xc⟩).toArray 35)).alloc (.cells (encP zeroP { data := #[] } Vc.nil Vc.nil Vc.nil).toArray 35) := ⟨_, rfl⟩
  have hz : B1.heap.size = w.heap.size + 2 := by rw [hB1]; simp
  have G1 : Grw (w.alloc (.cells (encP p T ⟨da, dn, dc⟩ ⟨ga, gn, gc⟩ ⟨xa, xn, xc⟩).toArray 35)) B1 := by rw [hB1]; exact (Grw.refl _).alloc _
  have OB := (Own.new w 35 (encP p T ⟨da, dn, dc⟩ ⟨ga, gn, gc⟩ ⟨xa, xn, xc⟩).toArray).below G1.below (by simp)
  rw [← hB1] at S0
  have c0 : B1.cell? ⟨w.heap.size, 0, none⟩ = some (.int .i64 p.kind) := OB.at_ 0 _ rfl
  have c1 : B1.cell? ⟨w.heap.size, 1, none⟩ = some (.int .i64 p.frm) := OB.at_ 1 _ rfl
  have c2 : B1.cell? ⟨w.heap.size, 2, none⟩ = some (.int .i64 p.to) := OB.at_ 2 _ rfl
  have ON := Own.new B1 35 (encP zeroP { data := #[] } Vc.nil Vc.nil Vc.nil).toArray
  rw [hz] at ON
  have HK := Lib.hid hk
  have HB := Lib.hid hB1
  have HS := Lib.hid S0
  clear hk hB1 S0 G1 OB
  rw [show (encP p T ⟨da, dn, dc⟩ ⟨ga, gn, gc⟩ ⟨xa, xn, xc⟩).toArray = #[.int .i64 p.kind, .int .i64 p.frm, .int .i64 p.to, .int .u64 (p.conf.e : Int), .int .i64 p.conf.r, .int .i64 p.m.f, .int .u32 (p.m.q : Int), .int .u64 (p.m.s : Int), .int .i64 p.m.v, .slice da dn dc, .string T, .int .u64 (p.stamp : Int), .int .u32 (p.sent : Int), .slice ga gn gc, .int .u64 (p.hor : Int), .int .i64 p.whom, .int .u32 (p.seq : Int), .int .u64 (p.mem : Int), .int .u64 (p.prom.e : Int), .int .i64 p.prom.r, .int .u64 (p.epoch : Int), .slice xa xn xc] from rfl]
  go_enter Try.func15, Try.ntmps15
  go_upto_region 1 with fail
  rw [show ((w.alloc (.cells #[.int .i64 p.kind, .int .i64 p.frm, .int .i64 p.to, .int .u64 (p.conf.e : Int), .int .i64 p.conf.r, .int .i64 p.m.f, .int .u32 (p.m.q : Int), .int .u64 (p.m.s : Int), .int .i64 p.m.v, .slice da dn dc, .string T, .int .u64 (p.stamp : Int), .int .u32 (p.sent : Int), .slice ga gn gc, .int .u64 (p.hor : Int), .int .i64 p.whom, .int .u32 (p.seq : Int), .int .u64 (p.mem : Int), .int .u64 (p.prom.e : Int), .int .i64 p.prom.r, .int .u64 (p.epoch : Int), .slice xa xn xc] 35)).alloc (.cells #[.int .i64 0, .int .i64 0, .int .i64 0, .int .u64 0, .int .i64 0, .int .i64 0, .int .u32 0, .int .u64 0, .int .i64 0, .slice none 0 0, .string { data := #[] }, .int .u64 0, .int .u32 0, .slice none 0 0, .int .u64 0, .int .i64 0, .int .u32 0, .int .u64 0, .int .u64 0, .int .i64 0, .int .u64 0, .slice none 0 0] 35)) = B1 from HB.out.symm]
  go_upto_region 2 with (refine store_packet (p := baseP p.kind p.frm p.to) (T := { data := #[] }) (vd := Vc.nil) (vg := Vc.nil) (vx := Vc.nil) rfl (.tmp 3) (.tmp 11) rfl (w.heap.size + 2) rfl rfl ON ?_)
  have S1 := HS.out.shared
  clear HS c0 c1 c2 ON
  generalize hW1 : ((B1.alloc (.cells (encP zeroP { data := #[] } Vc.nil Vc.nil Vc.nil).toArray 35)).setRow (w.heap.size + 2) (encP (baseP p.kind p.frm p.to) { data := #[] } Vc.nil Vc.nil Vc.nil).toArray) = W1 at S1
  rw [show ((B1.alloc (.cells #[.int .i64 0, .int .i64 0, .int .i64 0, .int .u64 0, .int .i64 0, .int .i64 0, .int .u32 0, .int .u64 0, .int .i64 0, .slice none 0 0, .string { data := #[] }, .int .u64 0, .int .u32 0, .slice none 0 0, .int .u64 0, .int .i64 0, .int .u32 0, .int .u64 0, .int .u64 0, .int .i64 0, .int .u64 0, .slice none 0 0] 35)).setRow (w.heap.size + 2) (encP (baseP p.kind p.frm p.to) { data := #[] } Vc.nil Vc.nil Vc.nil).toArray) = W1 from hW1]
  clear hW1 HB hz
  obtain ⟨g, hg⟩ : ∃ g, g = w.heap.size + 2 := ⟨_, rfl⟩
  rw [← hg] at S1
  rw [← hg]
  have hne : g ≠ w.heap.size := by omega
  have hne2 : w.heap.size ≠ g := by omega
  clear hg B1
  have c0 : W1.cell? ⟨w.heap.size, 0, none⟩ = some (.int .i64 p.kind) := S1.box.at_ 0 _ rfl
  have hk := HK.out
  have hk1 : ¬ p.kind < 1 := by omega
  go_upto_region 3 with fail
  go_wp2_with (first | (refine load_packet rfl (.tmp 3) rfl g rfl S1.row ?_) | (refine store_packet rfl (.tmp 2) (.tmp 20) rfl (w.heap.size + 1) rfl rfl S1.res ?_))
  (try simp only [Exit.inBlock, Exit.then])
  refine bodyPost_ret (results_packet rfl _ _ (w.heap.size + 1) rfl (S1.res.row _)) rfl ?_
  exact S1.done (by unfold cleanP; rw [show rowP p = [] from by unfold rowP; rw [if_neg (by omega)]]; rfl) ⟨rfl, (OwnVec.nil 0 w).at_, (OwnVec.nil 0 w).at_, (OwnXs.nil 0 w).at_⟩

theorem rclean (w : World) (p : Pk) (T : ByteArray) (vd vg vx : Vc) (ht : PkAt w p T vd vg vx) (hsm : Small p) :
    Calls Try.prog 15 #[.agg (encP p T vd vg vx).toArray] w (RcPost w p) := by
  obtain hk | hk | hk | hk | hk | hk | hk | hk | hk | hk | hk | hk | hk : p.kind < 1 ∨ 11 < p.kind ∨ p.kind = 1 ∨ p.kind = 2 ∨ p.kind = 3 ∨ p.kind = 4 ∨ p.kind = 5 ∨ p.kind = 6 ∨ p.kind = 7 ∨ p.kind = 8 ∨ p.kind = 9 ∨ p.kind = 10 ∨ p.kind = 11 := by omega
  · exact rclean_low w p T vd vg vx ht hsm hk
  · exact rclean_high w p T vd vg vx ht hsm hk
  · exact rclean_1 w p T vd vg vx ht hsm hk
  · exact rclean_2 w p T vd vg vx ht hsm hk
  · exact rclean_3 w p T vd vg vx ht hsm hk
  · exact rclean_4 w p T vd vg vx ht hsm hk
  · exact rclean_5 w p T vd vg vx ht hsm hk
  · exact rclean_6 w p T vd vg vx ht hsm hk
  · exact rclean_7 w p T vd vg vx ht hsm hk
  · exact rclean_8 w p T vd vg vx ht hsm hk
  · exact rclean_9 w p T vd vg vx ht hsm hk
  · exact rclean_10 w p T vd vg vx ht hsm hk
  · exact rclean_11 w p T vd vg vx ht hsm hk
end Go.Proofs.Ytgkddjapcdjalaa
