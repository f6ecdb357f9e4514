import Derived.Test.YtibngfpjdookkaaTkFieldKit
/- The document's reader: fields of some letters. (Written by wip/gen_tkfield.py.) -/
set_option linter.unusedVariables false
set_option linter.unusedSimpArgs false
namespace Go.Proofs.Ytibngfpjdookkaa
open Go.RowKit Go.Sort

set_option maxHeartbeats 4000000 in
set_option maxRecDepth 100000 in
theorem tfield_c {w : World} {b : Nat} {s : ByteArray} {a : Nat} (h : Tk w b s a 0) (ha : a ≤ 562949953421312) (hs : s.size ≤ 1099511627776) (B : Nat) (p : Pk) (T : ByteArray) (vd vg vx : Vc) (hO : OwnPk B w p T vd vg vx) (hB : b < B) (hBw : B ≤ w.heap.size) :
    Calls Try.prog 26 #[.pointer (some ⟨b, 0, none⟩), .int .u8 99, .agg (encP p T vd vg vx).toArray] w (FieldPost .c p vx B w b s a) := by
  have S0 := FSt.begin h p T vd vg vx
  have HO := Lib.hid hO
  clear h hO
  go_enter Try.func26, Try.ntmps26
  go_upto_region 3 with fail
  change FSt w ((w.alloc (Obj.cells (encP p T vd vg vx).toArray 35)).alloc (Obj.cells #[.int .i64 0, .int .i64 0, .int .i64 0, .int .u64 0, .int .i64 0, .int .i64 0, .int .u32 0, .int .u64 0, .int .i64 0, .slice none 0 0, .string { data := #[] }, .int .u64 0, .int .u32 0, .slice none 0 0, .int .u64 0, .int .i64 0, .int .u32 0, .int .u64 0, .int .u64 0, .int .i64 0, .int .u64 0, .slice none 0 0] 35)) b s a 0 p T vd vg vx at S0
  generalize ((w.alloc (Obj.cells (encP p T vd vg vx).toArray 35)).alloc (Obj.cells #[.int .i64 0, .int .i64 0, .int .i64 0, .int .u64 0, .int .i64 0, .int .i64 0, .int .u32 0, .int .u64 0, .int .i64 0, .slice none 0 0, .string { data := #[] }, .int .u64 0, .int .u32 0, .slice none 0 0, .int .u64 0, .int .i64 0, .int .u32 0, .int .u64 0, .int .u64 0, .int .i64 0, .int .u64 0, .slice none 0 0] 35)) = W0 at *
  have hn := tconf S0.tk (by omega) hs
  go_wp2_with fail
  refine hn.mono ?_
  rintro e w1 ⟨v, r, c1, rfl, hv, hr, T1, G1, R1⟩
  have S1 := S0.go T1 G1
  clear hn S0
  have d3 := S1.row.at_ 3 _ rfl
  have f3 := S1.row.free 3
  have d4 := S1.row.at_ 4 _ rfl
  have f4 := S1.row.free 4
  have X0 := S1.set 3 (.int .u64 (v : Int)) (q' := { p with conf := ⟨v, p.conf.r⟩ }) (T' := T) (vd' := vd) (vg' := vg) (vx' := vx) rfl
  have X1 := X0.set 4 (.int .i64 (r : Int)) (q' := { p with conf := ⟨v, (r : Int)⟩ }) (T' := T) (vd' := vd) (vg' := vg) (vx' := vx) rfl
  clear S1
  go_upto_region 36 with fail
  clear d3 f3 d4 f4
  obtain ⟨D1, D2, D3⟩ := X1.done
  have OR := X1.row
  have OZ := X1.res
  have HW : Hid (∃ W, W = (w1.setCell ⟨w.heap.size, 3, none⟩ (.int .u64 (v : Int))).setCell ⟨w.heap.size, 4, none⟩ (.int .i64 (r : Int))) := Lib.hid ⟨_, rfl⟩
  have HF : Hid (FieldPost .c p vx B w b s a (.returned (.agg (encP { p with conf := ⟨v, (r : Int)⟩ } T vd vg vx).toArray)) (((w1.setCell ⟨w.heap.size, 3, none⟩ (.int .u64 (v : Int))).setCell ⟨w.heap.size, 4, none⟩ (.int .i64 (r : Int))).setRow (w.heap.size + 1) (encP { p with conf := ⟨v, (r : Int)⟩ } T vd vg vx).toArray)) := Lib.hid ⟨{ p with conf := ⟨v, (r : Int)⟩ }, T, vd, vg, vx, a + 9, c1, rfl, ⟨(HO.out.grown D3 hB).text, (HO.out.grown D3 hB).deps, (HO.out.grown D3 hB).got, (HO.out.grown D3 hB).xs⟩, by omega, D2, D3, (R1.and (TR.pure _ (fun h => R1.in_ h))), fun _ _ => ⟨rfl, rfl⟩⟩
  have D1 := Lib.hid D1
  clear D2 D3 X1 HW
  generalize (w1.setCell ⟨w.heap.size, 3, none⟩ (.int .u64 (v : Int))).setCell ⟨w.heap.size, 4, none⟩ (.int .i64 (r : Int)) = W9 at *
  generalize hq : { p with conf := ⟨v, (r : Int)⟩ } = q at *
  go_wp2_with (first | (refine load_packet rfl (.tmp 5) rfl w.heap.size rfl OR ?_) | (refine store_packet rfl (.tmp 6) (.tmp 110) rfl (w.heap.size + 1) rfl rfl OZ ?_))
  (try simp only [Exit.inBlock, Exit.then])
  exact bodyPost_ret (results_packet rfl _ _ (w.heap.size + 1) rfl D1.out) rfl HF.out

set_option maxHeartbeats 4000000 in
set_option maxRecDepth 100000 in
theorem tfield_p {w : World} {b : Nat} {s : ByteArray} {a : Nat} (h : Tk w b s a 0) (ha : a ≤ 562949953421312) (hs : s.size ≤ 1099511627776) (B : Nat) (p : Pk) (T : ByteArray) (vd vg vx : Vc) (hO : OwnPk B w p T vd vg vx) (hB : b < B) (hBw : B ≤ w.heap.size) :
    Calls Try.prog 26 #[.pointer (some ⟨b, 0, none⟩), .int .u8 112, .agg (encP p T vd vg vx).toArray] w (FieldPost .p p vx B w b s a) := by
  have S0 := FSt.begin h p T vd vg vx
  have HO := Lib.hid hO
  clear h hO
  go_enter Try.func26, Try.ntmps26
  go_upto_region 22 with fail
  change FSt w ((w.alloc (Obj.cells (encP p T vd vg vx).toArray 35)).alloc (Obj.cells #[.int .i64 0, .int .i64 0, .int .i64 0, .int .u64 0, .int .i64 0, .int .i64 0, .int .u32 0, .int .u64 0, .int .i64 0, .slice none 0 0, .string { data := #[] }, .int .u64 0, .int .u32 0, .slice none 0 0, .int .u64 0, .int .i64 0, .int .u32 0, .int .u64 0, .int .u64 0, .int .i64 0, .int .u64 0, .slice none 0 0] 35)) b s a 0 p T vd vg vx at S0
  generalize ((w.alloc (Obj.cells (encP p T vd vg vx).toArray 35)).alloc (Obj.cells #[.int .i64 0, .int .i64 0, .int .i64 0, .int .u64 0, .int .i64 0, .int .i64 0, .int .u32 0, .int .u64 0, .int .i64 0, .slice none 0 0, .string { data := #[] }, .int .u64 0, .int .u32 0, .slice none 0 0, .int .u64 0, .int .i64 0, .int .u32 0, .int .u64 0, .int .u64 0, .int .i64 0, .int .u64 0, .slice none 0 0] 35)) = W0 at *
  have hn := tconf S0.tk (by omega) hs
  go_wp2_with fail
  refine hn.mono ?_
  rintro e w1 ⟨v, r, c1, rfl, hv, hr, T1, G1, R1⟩
  have S1 := S0.go T1 G1
  clear hn S0
  have d18 := S1.row.at_ 18 _ rfl
  have f18 := S1.row.free 18
  have d19 := S1.row.at_ 19 _ rfl
  have f19 := S1.row.free 19
  have X0 := S1.set 18 (.int .u64 (v : Int)) (q' := { p with prom := ⟨v, p.prom.r⟩ }) (T' := T) (vd' := vd) (vg' := vg) (vx' := vx) rfl
  have X1 := X0.set 19 (.int .i64 (r : Int)) (q' := { p with prom := ⟨v, (r : Int)⟩ }) (T' := T) (vd' := vd) (vg' := vg) (vx' := vx) rfl
  clear S1
  go_upto_region 36 with fail
  clear d18 f18 d19 f19
  obtain ⟨D1, D2, D3⟩ := X1.done
  have OR := X1.row
  have OZ := X1.res
  have HW : Hid (∃ W, W = (w1.setCell ⟨w.heap.size, 18, none⟩ (.int .u64 (v : Int))).setCell ⟨w.heap.size, 19, none⟩ (.int .i64 (r : Int))) := Lib.hid ⟨_, rfl⟩
  have HF : Hid (FieldPost .p p vx B w b s a (.returned (.agg (encP { p with prom := ⟨v, (r : Int)⟩ } T vd vg vx).toArray)) (((w1.setCell ⟨w.heap.size, 18, none⟩ (.int .u64 (v : Int))).setCell ⟨w.heap.size, 19, none⟩ (.int .i64 (r : Int))).setRow (w.heap.size + 1) (encP { p with prom := ⟨v, (r : Int)⟩ } T vd vg vx).toArray)) := Lib.hid ⟨{ p with prom := ⟨v, (r : Int)⟩ }, T, vd, vg, vx, a + 9, c1, rfl, ⟨(HO.out.grown D3 hB).text, (HO.out.grown D3 hB).deps, (HO.out.grown D3 hB).got, (HO.out.grown D3 hB).xs⟩, by omega, D2, D3, (R1.and (TR.pure _ (fun h => R1.in_ h))), fun _ _ => ⟨rfl, rfl⟩⟩
  have D1 := Lib.hid D1
  clear D2 D3 X1 HW
  generalize (w1.setCell ⟨w.heap.size, 18, none⟩ (.int .u64 (v : Int))).setCell ⟨w.heap.size, 19, none⟩ (.int .i64 (r : Int)) = W9 at *
  generalize hq : { p with prom := ⟨v, (r : Int)⟩ } = q at *
  go_wp2_with (first | (refine load_packet rfl (.tmp 5) rfl w.heap.size rfl OR ?_) | (refine store_packet rfl (.tmp 6) (.tmp 110) rfl (w.heap.size + 1) rfl rfl OZ ?_))
  (try simp only [Exit.inBlock, Exit.then])
  exact bodyPost_ret (results_packet rfl _ _ (w.heap.size + 1) rfl D1.out) rfl HF.out

set_option maxHeartbeats 4000000 in
set_option maxRecDepth 100000 in
theorem tfield_s {w : World} {b : Nat} {s : ByteArray} {a : Nat} (h : Tk w b s a 0) (ha : a ≤ 562949953421312) (hs : s.size ≤ 1099511627776) (B : Nat) (p : Pk) (T : ByteArray) (vd vg vx : Vc) (hO : OwnPk B w p T vd vg vx) (hB : b < B) (hBw : B ≤ w.heap.size) :
    Calls Try.prog 26 #[.pointer (some ⟨b, 0, none⟩), .int .u8 115, .agg (encP p T vd vg vx).toArray] w (FieldPost .s p vx B w b s a) := by
  have S0 := FSt.begin h p T vd vg vx
  have HO := Lib.hid hO
  clear h hO
  go_enter Try.func26, Try.ntmps26
  go_upto_region 10 with fail
  change FSt w ((w.alloc (Obj.cells (encP p T vd vg vx).toArray 35)).alloc (Obj.cells #[.int .i64 0, .int .i64 0, .int .i64 0, .int .u64 0, .int .i64 0, .int .i64 0, .int .u32 0, .int .u64 0, .int .i64 0, .slice none 0 0, .string { data := #[] }, .int .u64 0, .int .u32 0, .slice none 0 0, .int .u64 0, .int .i64 0, .int .u32 0, .int .u64 0, .int .u64 0, .int .i64 0, .int .u64 0, .slice none 0 0] 35)) b s a 0 p T vd vg vx at S0
  generalize ((w.alloc (Obj.cells (encP p T vd vg vx).toArray 35)).alloc (Obj.cells #[.int .i64 0, .int .i64 0, .int .i64 0, .int .u64 0, .int .i64 0, .int .i64 0, .int .u32 0, .int .u64 0, .int .i64 0, .slice none 0 0, .string { data := #[] }, .int .u64 0, .int .u32 0, .slice none 0 0, .int .u64 0, .int .i64 0, .int .u32 0, .int .u64 0, .int .u64 0, .int .i64 0, .int .u64 0, .slice none 0 0] 35)) = W0 at *
  have hn := (show Calls Try.prog 55 #[.pointer (some ⟨b, 0, none⟩), .int .i64 8] W0 (NumPost 8 W0 b s a 0) from tnum S0.tk 8 (by decide) (by decide) (by omega) hs)
  go_wp2_with fail
  refine hn.mono ?_
  rintro e w1 ⟨v, c1, rfl, hv, T1, G1, R1⟩
  clear hv
  have S1 := S0.go T1 G1
  clear hn S0
  have d11 := S1.row.at_ 11 _ rfl
  have f11 := S1.row.free 11
  have X0 := S1.set 11 (.int .u64 (v : Int)) (q' := { p with stamp := v }) (T' := T) (vd' := vd) (vg' := vg) (vx' := vx) rfl
  clear S1
  go_upto_region 36 with fail
  clear d11 f11
  obtain ⟨D1, D2, D3⟩ := X0.done
  have OR := X0.row
  have OZ := X0.res
  have HW : Hid (∃ W, W = w1.setCell ⟨w.heap.size, 11, none⟩ (.int .u64 (v : Int))) := Lib.hid ⟨_, rfl⟩
  have HF : Hid (FieldPost .s p vx B w b s a (.returned (.agg (encP { p with stamp := v } T vd vg vx).toArray)) ((w1.setCell ⟨w.heap.size, 11, none⟩ (.int .u64 (v : Int))).setRow (w.heap.size + 1) (encP { p with stamp := v } T vd vg vx).toArray)) := Lib.hid ⟨{ p with stamp := v }, T, vd, vg, vx, a + 8, c1, rfl, ⟨(HO.out.grown D3 hB).text, (HO.out.grown D3 hB).deps, (HO.out.grown D3 hB).got, (HO.out.grown D3 hB).xs⟩, by omega, D2, D3, (R1.and (TR.pure _ (fun h => R1.in_ h))), fun _ _ => ⟨rfl, rfl⟩⟩
  have D1 := Lib.hid D1
  clear D2 D3 X0 HW
  generalize w1.setCell ⟨w.heap.size, 11, none⟩ (.int .u64 (v : Int)) = W9 at *
  generalize hq : { p with stamp := v } = q at *
  go_wp2_with (first | (refine load_packet rfl (.tmp 5) rfl w.heap.size rfl OR ?_) | (refine store_packet rfl (.tmp 6) (.tmp 110) rfl (w.heap.size + 1) rfl rfl OZ ?_))
  (try simp only [Exit.inBlock, Exit.then])
  exact bodyPost_ret (results_packet rfl _ _ (w.heap.size + 1) rfl D1.out) rfl HF.out

set_option maxHeartbeats 4000000 in
set_option maxRecDepth 100000 in
theorem tfield_n {w : World} {b : Nat} {s : ByteArray} {a : Nat} (h : Tk w b s a 0) (ha : a ≤ 562949953421312) (hs : s.size ≤ 1099511627776) (B : Nat) (p : Pk) (T : ByteArray) (vd vg vx : Vc) (hO : OwnPk B w p T vd vg vx) (hB : b < B) (hBw : B ≤ w.heap.size) :
    Calls Try.prog 26 #[.pointer (some ⟨b, 0, none⟩), .int .u8 110, .agg (encP p T vd vg vx).toArray] w (FieldPost .n p vx B w b s a) := by
  have S0 := FSt.begin h p T vd vg vx
  have HO := Lib.hid hO
  clear h hO
  go_enter Try.func26, Try.ntmps26
  go_upto_region 12 with fail
  change FSt w ((w.alloc (Obj.cells (encP p T vd vg vx).toArray 35)).alloc (Obj.cells #[.int .i64 0, .int .i64 0, .int .i64 0, .int .u64 0, .int .i64 0, .int .i64 0, .int .u32 0, .int .u64 0, .int .i64 0, .slice none 0 0, .string { data := #[] }, .int .u64 0, .int .u32 0, .slice none 0 0, .int .u64 0, .int .i64 0, .int .u32 0, .int .u64 0, .int .u64 0, .int .i64 0, .int .u64 0, .slice none 0 0] 35)) b s a 0 p T vd vg vx at S0
  generalize ((w.alloc (Obj.cells (encP p T vd vg vx).toArray 35)).alloc (Obj.cells #[.int .i64 0, .int .i64 0, .int .i64 0, .int .u64 0, .int .i64 0, .int .i64 0, .int .u32 0, .int .u64 0, .int .i64 0, .slice none 0 0, .string { data := #[] }, .int .u64 0, .int .u32 0, .slice none 0 0, .int .u64 0, .int .i64 0, .int .u32 0, .int .u64 0, .int .u64 0, .int .i64 0, .int .u64 0, .slice none 0 0] 35)) = W0 at *
  have hn := (show Calls Try.prog 55 #[.pointer (some ⟨b, 0, none⟩), .int .i64 4] W0 (NumPost 4 W0 b s a 0) from tnum S0.tk 4 (by decide) (by decide) (by omega) hs)
  go_wp2_with fail
  refine hn.mono ?_
  rintro e w1 ⟨v, c1, rfl, hv, T1, G1, R1⟩
  replace hv : v < 4294967296 := hv
  have hwr : IntKind.u32.wrap (v : Int) = (v : Int) := by rw [IntKind.wrap_u32]; omega
  have S1 := S0.go T1 G1
  clear hn S0
  have d12 := S1.row.at_ 12 _ rfl
  have f12 := S1.row.free 12
  have X0 := S1.set 12 (.int .u32 (v : Int)) (q' := { p with sent := v }) (T' := T) (vd' := vd) (vg' := vg) (vx' := vx) rfl
  clear S1
  go_upto_region 36 with fail
  clear d12 f12
  obtain ⟨D1, D2, D3⟩ := X0.done
  have OR := X0.row
  have OZ := X0.res
  have HW : Hid (∃ W, W = w1.setCell ⟨w.heap.size, 12, none⟩ (.int .u32 (v : Int))) := Lib.hid ⟨_, rfl⟩
  have HF : Hid (FieldPost .n p vx B w b s a (.returned (.agg (encP { p with sent := v } T vd vg vx).toArray)) ((w1.setCell ⟨w.heap.size, 12, none⟩ (.int .u32 (v : Int))).setRow (w.heap.size + 1) (encP { p with sent := v } T vd vg vx).toArray)) := Lib.hid ⟨{ p with sent := v }, T, vd, vg, vx, a + 4, c1, rfl, ⟨(HO.out.grown D3 hB).text, (HO.out.grown D3 hB).deps, (HO.out.grown D3 hB).got, (HO.out.grown D3 hB).xs⟩, by omega, D2, D3, (R1.and (TR.pure _ (fun h => R1.in_ h))), fun _ _ => ⟨rfl, rfl⟩⟩
  have D1 := Lib.hid D1
  clear D2 D3 X0 HW
  generalize w1.setCell ⟨w.heap.size, 12, none⟩ (.int .u32 (v : Int)) = W9 at *
  generalize hq : { p with sent := v } = q at *
  go_wp2_with (first | (refine load_packet rfl (.tmp 5) rfl w.heap.size rfl OR ?_) | (refine store_packet rfl (.tmp 6) (.tmp 110) rfl (w.heap.size + 1) rfl rfl OZ ?_))
  (try simp only [Exit.inBlock, Exit.then])
  exact bodyPost_ret (results_packet rfl _ _ (w.heap.size + 1) rfl D1.out) rfl HF.out

set_option maxHeartbeats 4000000 in
set_option maxRecDepth 100000 in
theorem tfield_h {w : World} {b : Nat} {s : ByteArray} {a : Nat} (h : Tk w b s a 0) (ha : a ≤ 562949953421312) (hs : s.size ≤ 1099511627776) (B : Nat) (p : Pk) (T : ByteArray) (vd vg vx : Vc) (hO : OwnPk B w p T vd vg vx) (hB : b < B) (hBw : B ≤ w.heap.size) :
    Calls Try.prog 26 #[.pointer (some ⟨b, 0, none⟩), .int .u8 104, .agg (encP p T vd vg vx).toArray] w (FieldPost .h p vx B w b s a) := by
  have S0 := FSt.begin h p T vd vg vx
  have HO := Lib.hid hO
  clear h hO
  go_enter Try.func26, Try.ntmps26
  go_upto_region 16 with fail
  change FSt w ((w.alloc (Obj.cells (encP p T vd vg vx).toArray 35)).alloc (Obj.cells #[.int .i64 0, .int .i64 0, .int .i64 0, .int .u64 0, .int .i64 0, .int .i64 0, .int .u32 0, .int .u64 0, .int .i64 0, .slice none 0 0, .string { data := #[] }, .int .u64 0, .int .u32 0, .slice none 0 0, .int .u64 0, .int .i64 0, .int .u32 0, .int .u64 0, .int .u64 0, .int .i64 0, .int .u64 0, .slice none 0 0] 35)) b s a 0 p T vd vg vx at S0
  generalize ((w.alloc (Obj.cells (encP p T vd vg vx).toArray 35)).alloc (Obj.cells #[.int .i64 0, .int .i64 0, .int .i64 0, .int .u64 0, .int .i64 0, .int .i64 0, .int .u32 0, .int .u64 0, .int .i64 0, .slice none 0 0, .string { data := #[] }, .int .u64 0, .int .u32 0, .slice none 0 0, .int .u64 0, .int .i64 0, .int .u32 0, .int .u64 0, .int .u64 0, .int .i64 0, .int .u64 0, .slice none 0 0] 35)) = W0 at *
  have hn := (show Calls Try.prog 55 #[.pointer (some ⟨b, 0, none⟩), .int .i64 8] W0 (NumPost 8 W0 b s a 0) from tnum S0.tk 8 (by decide) (by decide) (by omega) hs)
  go_wp2_with fail
  refine hn.mono ?_
  rintro e w1 ⟨v, c1, rfl, hv, T1, G1, R1⟩
  clear hv
  have S1 := S0.go T1 G1
  clear hn S0
  have d14 := S1.row.at_ 14 _ rfl
  have f14 := S1.row.free 14
  have X0 := S1.set 14 (.int .u64 (v : Int)) (q' := { p with hor := v }) (T' := T) (vd' := vd) (vg' := vg) (vx' := vx) rfl
  clear S1
  go_upto_region 36 with fail
  clear d14 f14
  obtain ⟨D1, D2, D3⟩ := X0.done
  have OR := X0.row
  have OZ := X0.res
  have HW : Hid (∃ W, W = w1.setCell ⟨w.heap.size, 14, none⟩ (.int .u64 (v : Int))) := Lib.hid ⟨_, rfl⟩
  have HF : Hid (FieldPost .h p vx B w b s a (.returned (.agg (encP { p with hor := v } T vd vg vx).toArray)) ((w1.setCell ⟨w.heap.size, 14, none⟩ (.int .u64 (v : Int))).setRow (w.heap.size + 1) (encP { p with hor := v } T vd vg vx).toArray)) := Lib.hid ⟨{ p with hor := v }, T, vd, vg, vx, a + 8, c1, rfl, ⟨(HO.out.grown D3 hB).text, (HO.out.grown D3 hB).deps, (HO.out.grown D3 hB).got, (HO.out.grown D3 hB).xs⟩, by omega, D2, D3, (R1.and (TR.pure _ (fun h => R1.in_ h))), fun _ _ => ⟨rfl, rfl⟩⟩
  have D1 := Lib.hid D1
  clear D2 D3 X0 HW
  generalize w1.setCell ⟨w.heap.size, 14, none⟩ (.int .u64 (v : Int)) = W9 at *
  generalize hq : { p with hor := v } = q at *
  go_wp2_with (first | (refine load_packet rfl (.tmp 5) rfl w.heap.size rfl OR ?_) | (refine store_packet rfl (.tmp 6) (.tmp 110) rfl (w.heap.size + 1) rfl rfl OZ ?_))
  (try simp only [Exit.inBlock, Exit.then])
  exact bodyPost_ret (results_packet rfl _ _ (w.heap.size + 1) rfl D1.out) rfl HF.out

set_option maxHeartbeats 4000000 in
set_option maxRecDepth 100000 in
theorem tfield_q {w : World} {b : Nat} {s : ByteArray} {a : Nat} (h : Tk w b s a 0) (ha : a ≤ 562949953421312) (hs : s.size ≤ 1099511627776) (B : Nat) (p : Pk) (T : ByteArray) (vd vg vx : Vc) (hO : OwnPk B w p T vd vg vx) (hB : b < B) (hBw : B ≤ w.heap.size) :
    Calls Try.prog 26 #[.pointer (some ⟨b, 0, none⟩), .int .u8 113, .agg (encP p T vd vg vx).toArray] w (FieldPost .q p vx B w b s a) := by
  have S0 := FSt.begin h p T vd vg vx
  have HO := Lib.hid hO
  clear h hO
  go_enter Try.func26, Try.ntmps26
  go_upto_region 20 with fail
  change FSt w ((w.alloc (Obj.cells (encP p T vd vg vx).toArray 35)).alloc (Obj.cells #[.int .i64 0, .int .i64 0, .int .i64 0, .int .u64 0, .int .i64 0, .int .i64 0, .int .u32 0, .int .u64 0, .int .i64 0, .slice none 0 0, .string { data := #[] }, .int .u64 0, .int .u32 0, .slice none 0 0, .int .u64 0, .int .i64 0, .int .u32 0, .int .u64 0, .int .u64 0, .int .i64 0, .int .u64 0, .slice none 0 0] 35)) b s a 0 p T vd vg vx at S0
  generalize ((w.alloc (Obj.cells (encP p T vd vg vx).toArray 35)).alloc (Obj.cells #[.int .i64 0, .int .i64 0, .int .i64 0, .int .u64 0, .int .i64 0, .int .i64 0, .int .u32 0, .int .u64 0, .int .i64 0, .slice none 0 0, .string { data := #[] }, .int .u64 0, .int .u32 0, .slice none 0 0, .int .u64 0, .int .i64 0, .int .u32 0, .int .u64 0, .int .u64 0, .int .i64 0, .int .u64 0, .slice none 0 0] 35)) = W0 at *
  have hn := (show Calls Try.prog 55 #[.pointer (some ⟨b, 0, none⟩), .int .i64 4] W0 (NumPost 4 W0 b s a 0) from tnum S0.tk 4 (by decide) (by decide) (by omega) hs)
  go_wp2_with fail
  refine hn.mono ?_
  rintro e w1 ⟨v, c1, rfl, hv, T1, G1, R1⟩
  replace hv : v < 4294967296 := hv
  have hwr : IntKind.u32.wrap (v : Int) = (v : Int) := by rw [IntKind.wrap_u32]; omega
  have S1 := S0.go T1 G1
  clear hn S0
  have d16 := S1.row.at_ 16 _ rfl
  have f16 := S1.row.free 16
  have X0 := S1.set 16 (.int .u32 (v : Int)) (q' := { p with seq := v }) (T' := T) (vd' := vd) (vg' := vg) (vx' := vx) rfl
  clear S1
  go_upto_region 36 with fail
  clear d16 f16
  obtain ⟨D1, D2, D3⟩ := X0.done
  have OR := X0.row
  have OZ := X0.res
  have HW : Hid (∃ W, W = w1.setCell ⟨w.heap.size, 16, none⟩ (.int .u32 (v : Int))) := Lib.hid ⟨_, rfl⟩
  have HF : Hid (FieldPost .q p vx B w b s a (.returned (.agg (encP { p with seq := v } T vd vg vx).toArray)) ((w1.setCell ⟨w.heap.size, 16, none⟩ (.int .u32 (v : Int))).setRow (w.heap.size + 1) (encP { p with seq := v } T vd vg vx).toArray)) := Lib.hid ⟨{ p with seq := v }, T, vd, vg, vx, a + 4, c1, rfl, ⟨(HO.out.grown D3 hB).text, (HO.out.grown D3 hB).deps, (HO.out.grown D3 hB).got, (HO.out.grown D3 hB).xs⟩, by omega, D2, D3, (R1.and (TR.pure _ (fun h => R1.in_ h))), fun _ _ => ⟨rfl, rfl⟩⟩
  have D1 := Lib.hid D1
  clear D2 D3 X0 HW
  generalize w1.setCell ⟨w.heap.size, 16, none⟩ (.int .u32 (v : Int)) = W9 at *
  generalize hq : { p with seq := v } = q at *
  go_wp2_with (first | (refine load_packet rfl (.tmp 5) rfl w.heap.size rfl OR ?_) | (refine store_packet rfl (.tmp 6) (.tmp 110) rfl (w.heap.size + 1) rfl rfl OZ ?_))
  (try simp only [Exit.inBlock, Exit.then])
  exact bodyPost_ret (results_packet rfl _ _ (w.heap.size + 1) rfl D1.out) rfl HF.out

set_option maxHeartbeats 4000000 in
set_option maxRecDepth 100000 in
theorem tfield_b {w : World} {b : Nat} {s : ByteArray} {a : Nat} (h : Tk w b s a 0) (ha : a ≤ 562949953421312) (hs : s.size ≤ 1099511627776) (B : Nat) (p : Pk) (T : ByteArray) (vd vg vx : Vc) (hO : OwnPk B w p T vd vg vx) (hB : b < B) (hBw : B ≤ w.heap.size) :
    Calls Try.prog 26 #[.pointer (some ⟨b, 0, none⟩), .int .u8 98, .agg (encP p T vd vg vx).toArray] w (FieldPost .b p vx B w b s a) := by
  have S0 := FSt.begin h p T vd vg vx
  have HO := Lib.hid hO
  clear h hO
  go_enter Try.func26, Try.ntmps26
  go_upto_region 26 with fail
  change FSt w ((w.alloc (Obj.cells (encP p T vd vg vx).toArray 35)).alloc (Obj.cells #[.int .i64 0, .int .i64 0, .int .i64 0, .int .u64 0, .int .i64 0, .int .i64 0, .int .u32 0, .int .u64 0, .int .i64 0, .slice none 0 0, .string { data := #[] }, .int .u64 0, .int .u32 0, .slice none 0 0, .int .u64 0, .int .i64 0, .int .u32 0, .int .u64 0, .int .u64 0, .int .i64 0, .int .u64 0, .slice none 0 0] 35)) b s a 0 p T vd vg vx at S0
  generalize ((w.alloc (Obj.cells (encP p T vd vg vx).toArray 35)).alloc (Obj.cells #[.int .i64 0, .int .i64 0, .int .i64 0, .int .u64 0, .int .i64 0, .int .i64 0, .int .u32 0, .int .u64 0, .int .i64 0, .slice none 0 0, .string { data := #[] }, .int .u64 0, .int .u32 0, .slice none 0 0, .int .u64 0, .int .i64 0, .int .u32 0, .int .u64 0, .int .u64 0, .int .i64 0, .int .u64 0, .slice none 0 0] 35)) = W0 at *
  have hn := (show Calls Try.prog 55 #[.pointer (some ⟨b, 0, none⟩), .int .i64 8] W0 (NumPost 8 W0 b s a 0) from tnum S0.tk 8 (by decide) (by decide) (by omega) hs)
  go_wp2_with fail
  refine hn.mono ?_
  rintro e w1 ⟨v, c1, rfl, hv, T1, G1, R1⟩
  clear hv
  have S1 := S0.go T1 G1
  clear hn S0
  have d17 := S1.row.at_ 17 _ rfl
  have f17 := S1.row.free 17
  have X0 := S1.set 17 (.int .u64 (v : Int)) (q' := { p with mem := v }) (T' := T) (vd' := vd) (vg' := vg) (vx' := vx) rfl
  clear S1
  go_upto_region 36 with fail
  clear d17 f17
  obtain ⟨D1, D2, D3⟩ := X0.done
  have OR := X0.row
  have OZ := X0.res
  have HW : Hid (∃ W, W = w1.setCell ⟨w.heap.size, 17, none⟩ (.int .u64 (v : Int))) := Lib.hid ⟨_, rfl⟩
  have HF : Hid (FieldPost .b p vx B w b s a (.returned (.agg (encP { p with mem := v } T vd vg vx).toArray)) ((w1.setCell ⟨w.heap.size, 17, none⟩ (.int .u64 (v : Int))).setRow (w.heap.size + 1) (encP { p with mem := v } T vd vg vx).toArray)) := Lib.hid ⟨{ p with mem := v }, T, vd, vg, vx, a + 8, c1, rfl, ⟨(HO.out.grown D3 hB).text, (HO.out.grown D3 hB).deps, (HO.out.grown D3 hB).got, (HO.out.grown D3 hB).xs⟩, by omega, D2, D3, (R1.and (TR.pure _ (fun h => R1.in_ h))), fun _ _ => ⟨rfl, rfl⟩⟩
  have D1 := Lib.hid D1
  clear D2 D3 X0 HW
  generalize w1.setCell ⟨w.heap.size, 17, none⟩ (.int .u64 (v : Int)) = W9 at *
  generalize hq : { p with mem := v } = q at *
  go_wp2_with (first | (refine load_packet rfl (.tmp 5) rfl w.heap.size rfl OR ?_) | (refine store_packet rfl (.tmp 6) (.tmp 110) rfl (w.heap.size + 1) rfl rfl OZ ?_))
  (try simp only [Exit.inBlock, Exit.then])
  exact bodyPost_ret (results_packet rfl _ _ (w.heap.size + 1) rfl D1.out) rfl HF.out

set_option maxHeartbeats 4000000 in
set_option maxRecDepth 100000 in
theorem tfield_e {w : World} {b : Nat} {s : ByteArray} {a : Nat} (h : Tk w b s a 0) (ha : a ≤ 562949953421312) (hs : s.size ≤ 1099511627776) (B : Nat) (p : Pk) (T : ByteArray) (vd vg vx : Vc) (hO : OwnPk B w p T vd vg vx) (hB : b < B) (hBw : B ≤ w.heap.size) :
    Calls Try.prog 26 #[.pointer (some ⟨b, 0, none⟩), .int .u8 101, .agg (encP p T vd vg vx).toArray] w (FieldPost .e p vx B w b s a) := by
  have S0 := FSt.begin h p T vd vg vx
  have HO := Lib.hid hO
  clear h hO
  go_enter Try.func26, Try.ntmps26
  go_upto_region 24 with fail
  change FSt w ((w.alloc (Obj.cells (encP p T vd vg vx).toArray 35)).alloc (Obj.cells #[.int .i64 0, .int .i64 0, .int .i64 0, .int .u64 0, .int .i64 0, .int .i64 0, .int .u32 0, .int .u64 0, .int .i64 0, .slice none 0 0, .string { data := #[] }, .int .u64 0, .int .u32 0, .slice none 0 0, .int .u64 0, .int .i64 0, .int .u32 0, .int .u64 0, .int .u64 0, .int .i64 0, .int .u64 0, .slice none 0 0] 35)) b s a 0 p T vd vg vx at S0
  generalize ((w.alloc (Obj.cells (encP p T vd vg vx).toArray 35)).alloc (Obj.cells #[.int .i64 0, .int .i64 0, .int .i64 0, .int .u64 0, .int .i64 0, .int .i64 0, .int .u32 0, .int .u64 0, .int .i64 0, .slice none 0 0, .string { data := #[] }, .int .u64 0, .int .u32 0, .slice none 0 0, .int .u64 0, .int .i64 0, .int .u32 0, .int .u64 0, .int .u64 0, .int .i64 0, .int .u64 0, .slice none 0 0] 35)) = W0 at *
  have hn := (show Calls Try.prog 55 #[.pointer (some ⟨b, 0, none⟩), .int .i64 8] W0 (NumPost 8 W0 b s a 0) from tnum S0.tk 8 (by decide) (by decide) (by omega) hs)
  go_wp2_with fail
  refine hn.mono ?_
  rintro e w1 ⟨v, c1, rfl, hv, T1, G1, R1⟩
  clear hv
  have S1 := S0.go T1 G1
  clear hn S0
  have d20 := S1.row.at_ 20 _ rfl
  have f20 := S1.row.free 20
  have X0 := S1.set 20 (.int .u64 (v : Int)) (q' := { p with epoch := v }) (T' := T) (vd' := vd) (vg' := vg) (vx' := vx) rfl
  clear S1
  go_upto_region 36 with fail
  clear d20 f20
  obtain ⟨D1, D2, D3⟩ := X0.done
  have OR := X0.row
  have OZ := X0.res
  have HW : Hid (∃ W, W = w1.setCell ⟨w.heap.size, 20, none⟩ (.int .u64 (v : Int))) := Lib.hid ⟨_, rfl⟩
  have HF : Hid (FieldPost .e p vx B w b s a (.returned (.agg (encP { p with epoch := v } T vd vg vx).toArray)) ((w1.setCell ⟨w.heap.size, 20, none⟩ (.int .u64 (v : Int))).setRow (w.heap.size + 1) (encP { p with epoch := v } T vd vg vx).toArray)) := Lib.hid ⟨{ p with epoch := v }, T, vd, vg, vx, a + 8, c1, rfl, ⟨(HO.out.grown D3 hB).text, (HO.out.grown D3 hB).deps, (HO.out.grown D3 hB).got, (HO.out.grown D3 hB).xs⟩, by omega, D2, D3, (R1.and (TR.pure _ (fun h => R1.in_ h))), fun _ _ => ⟨rfl, rfl⟩⟩
  have D1 := Lib.hid D1
  clear D2 D3 X0 HW
  generalize w1.setCell ⟨w.heap.size, 20, none⟩ (.int .u64 (v : Int)) = W9 at *
  generalize hq : { p with epoch := v } = q at *
  go_wp2_with (first | (refine load_packet rfl (.tmp 5) rfl w.heap.size rfl OR ?_) | (refine store_packet rfl (.tmp 6) (.tmp 110) rfl (w.heap.size + 1) rfl rfl OZ ?_))
  (try simp only [Exit.inBlock, Exit.then])
  exact bodyPost_ret (results_packet rfl _ _ (w.heap.size + 1) rfl D1.out) rfl HF.out

set_option maxHeartbeats 4000000 in
set_option maxRecDepth 100000 in
theorem tfield_w {w : World} {b : Nat} {s : ByteArray} {a : Nat} (h : Tk w b s a 0) (ha : a ≤ 562949953421312) (hs : s.size ≤ 1099511627776) (B : Nat) (p : Pk) (T : ByteArray) (vd vg vx : Vc) (hO : OwnPk B w p T vd vg vx) (hB : b < B) (hBw : B ≤ w.heap.size) :
    Calls Try.prog 26 #[.pointer (some ⟨b, 0, none⟩), .int .u8 119, .agg (encP p T vd vg vx).toArray] w (FieldPost .w p vx B w b s a) := by
  have S0 := FSt.begin h p T vd vg vx
  have HO := Lib.hid hO
  clear h hO
  go_enter Try.func26, Try.ntmps26
  go_upto_region 18 with fail
  change FSt w ((w.alloc (Obj.cells (encP p T vd vg vx).toArray 35)).alloc (Obj.cells #[.int .i64 0, .int .i64 0, .int .i64 0, .int .u64 0, .int .i64 0, .int .i64 0, .int .u32 0, .int .u64 0, .int .i64 0, .slice none 0 0, .string { data := #[] }, .int .u64 0, .int .u32 0, .slice none 0 0, .int .u64 0, .int .i64 0, .int .u32 0, .int .u64 0, .int .u64 0, .int .i64 0, .int .u64 0, .slice none 0 0] 35)) b s a 0 p T vd vg vx at S0
  generalize ((w.alloc (Obj.cells (encP p T vd vg vx).toArray 35)).alloc (Obj.cells #[.int .i64 0, .int .i64 0, .int .i64 0, .int .u64 0, .int .i64 0, .int .i64 0, .int .u32 0, .int .u64 0, .int .i64 0, .slice none 0 0, .string { data := #[] }, .int .u64 0, .int .u32 0, .slice none 0 0, .int .u64 0, .int .i64 0, .int .u32 0, .int .u64 0, .int .u64 0, .int .i64 0, .int .u64 0, .slice none 0 0] 35)) = W0 at *
  have hn := tprocess S0.tk (by omega) hs
  go_wp2_with fail
  refine hn.mono ?_
  rintro e w1 ⟨v, c1, rfl, hv, T1, G1, R1⟩
  have S1 := S0.go T1 G1
  clear hn S0
  have d15 := S1.row.at_ 15 _ rfl
  have f15 := S1.row.free 15
  have X0 := S1.set 15 (.int .i64 (v : Int)) (q' := { p with whom := (v : Int) }) (T' := T) (vd' := vd) (vg' := vg) (vx' := vx) rfl
  clear S1
  go_upto_region 36 with fail
  clear d15 f15
  obtain ⟨D1, D2, D3⟩ := X0.done
  have OR := X0.row
  have OZ := X0.res
  have HW : Hid (∃ W, W = w1.setCell ⟨w.heap.size, 15, none⟩ (.int .i64 (v : Int))) := Lib.hid ⟨_, rfl⟩
  have HF : Hid (FieldPost .w p vx B w b s a (.returned (.agg (encP { p with whom := (v : Int) } T vd vg vx).toArray)) ((w1.setCell ⟨w.heap.size, 15, none⟩ (.int .i64 (v : Int))).setRow (w.heap.size + 1) (encP { p with whom := (v : Int) } T vd vg vx).toArray)) := Lib.hid ⟨{ p with whom := (v : Int) }, T, vd, vg, vx, a + 1, c1, rfl, ⟨(HO.out.grown D3 hB).text, (HO.out.grown D3 hB).deps, (HO.out.grown D3 hB).got, (HO.out.grown D3 hB).xs⟩, by omega, D2, D3, (R1.and (TR.pure _ (fun h => R1.in_ h))), fun _ _ => ⟨rfl, rfl⟩⟩
  have D1 := Lib.hid D1
  clear D2 D3 X0 HW
  generalize w1.setCell ⟨w.heap.size, 15, none⟩ (.int .i64 (v : Int)) = W9 at *
  generalize hq : { p with whom := (v : Int) } = q at *
  go_wp2_with (first | (refine load_packet rfl (.tmp 5) rfl w.heap.size rfl OR ?_) | (refine store_packet rfl (.tmp 6) (.tmp 110) rfl (w.heap.size + 1) rfl rfl OZ ?_))
  (try simp only [Exit.inBlock, Exit.then])
  exact bodyPost_ret (results_packet rfl _ _ (w.heap.size + 1) rfl D1.out) rfl HF.out
end Go.Proofs.Ytibngfpjdookkaa

/- The document's reader: fields of some letters. (Written by wip/gen_tkfield.py.) -/
set_option linter.unusedVariables false
set_option linter.unusedSimpArgs false
namespace Go.Proofs.Ytibngfpjdookkaa
open Go.RowKit Go.Sort

set_option maxHeartbeats 4000000 in
set_option maxRecDepth 100000 in
theorem tfield_g {w : World} {b : Nat} {s : ByteArray} {a : Nat} (h : Tk w b s a 0) (ha : a ≤ 562949953421312) (hs : s.size ≤ 1099511627776) (B : Nat) (p : Pk) (T : ByteArray) (vd vg vx : Vc) (hO : OwnPk B w p T vd vg vx) (hB : b < B) (hBw : B ≤ w.heap.size) :
    Calls Try.prog 26 #[.pointer (some ⟨b, 0, none⟩), .int .u8 103, .agg (encP p T vd vg vx).toArray] w (FieldPost .g p vx B w b s a) := by
  have S0 := FSt.begin h p T vd vg vx
  have HO := Lib.hid hO
  clear h hO
  go_enter Try.func26, Try.ntmps26
  go_upto_region 14 with fail
  change FSt w ((w.alloc (Obj.cells (encP p T vd vg vx).toArray 35)).alloc (Obj.cells #[.int .i64 0, .int .i64 0, .int .i64 0, .int .u64 0, .int .i64 0, .int .i64 0, .int .u32 0, .int .u64 0, .int .i64 0, .slice none 0 0, .string { data := #[] }, .int .u64 0, .int .u32 0, .slice none 0 0, .int .u64 0, .int .i64 0, .int .u32 0, .int .u64 0, .int .u64 0, .int .i64 0, .int .u64 0, .slice none 0 0] 35)) b s a 0 p T vd vg vx at S0
  generalize ((w.alloc (Obj.cells (encP p T vd vg vx).toArray 35)).alloc (Obj.cells #[.int .i64 0, .int .i64 0, .int .i64 0, .int .u64 0, .int .i64 0, .int .i64 0, .int .u32 0, .int .u64 0, .int .i64 0, .slice none 0 0, .string { data := #[] }, .int .u64 0, .int .u32 0, .slice none 0 0, .int .u64 0, .int .i64 0, .int .u32 0, .int .u64 0, .int .u64 0, .int .i64 0, .int .u64 0, .slice none 0 0] 35)) = W0 at *
  have hn := tvector S0.tk (by omega) hs
  go_wp2_with fail
  refine hn.mono ?_
  rintro e w1 ⟨l, ⟨va, vn, vc⟩, a1, c1, rfl, V1, hle, T1, G1, R1⟩
  have hsz := S0.sz
  have S1 := S0.go T1 G1
  clear hn S0
  have d13 := S1.row.at_ 13 _ rfl
  have f13 := S1.row.free 13
  have X0 := S1.set 13 (.slice va vn vc) (q' := { p with got := l }) (T' := T) (vd' := vd) (vg' := ⟨va, vn, vc⟩) (vx' := vx) rfl
  clear S1
  go_upto_region 36 with fail
  clear d13 f13
  obtain ⟨D1, D2, D3⟩ := X0.done
  have OR := X0.row
  have OZ := X0.res
  have HW : Hid (∃ W, W = w1.setCell ⟨w.heap.size, 13, none⟩ (.slice va vn vc)) := Lib.hid ⟨_, rfl⟩
  have HF : Hid (FieldPost .g p vx B w b s a (.returned (.agg (encP { p with got := l } T vd ⟨va, vn, vc⟩ vx).toArray)) ((w1.setCell ⟨w.heap.size, 13, none⟩ (.slice va vn vc)).setRow (w.heap.size + 1) (encP { p with got := l } T vd ⟨va, vn, vc⟩ vx).toArray)) := Lib.hid ⟨{ p with got := l }, T, vd, ⟨va, vn, vc⟩, vx, a1, c1, rfl, ⟨(HO.out.grown D3 hB).text, (HO.out.grown D3 hB).deps, ((V1.set (by omega) 13 (.slice va vn vc)).row (g := w.heap.size + 1) (by omega) _).mono (by omega), (HO.out.grown D3 hB).xs⟩, by omega, D2, D3, (R1.and (TR.pure _ (fun h => R1.in_ h))), fun _ _ => ⟨rfl, rfl⟩⟩
  have D1 := Lib.hid D1
  clear D2 D3 X0 HW
  generalize w1.setCell ⟨w.heap.size, 13, none⟩ (.slice va vn vc) = W9 at *
  generalize hq : { p with got := l } = q at *
  go_wp2_with (first | (refine load_packet rfl (.tmp 5) rfl w.heap.size rfl OR ?_) | (refine store_packet rfl (.tmp 6) (.tmp 110) rfl (w.heap.size + 1) rfl rfl OZ ?_))
  (try simp only [Exit.inBlock, Exit.then])
  exact bodyPost_ret (results_packet rfl _ _ (w.heap.size + 1) rfl D1.out) rfl HF.out

set_option maxHeartbeats 4000000 in
set_option maxRecDepth 100000 in
theorem tfield_m_9 {w : World} {b : Nat} {s : ByteArray} {a : Nat} (h : Tk w b s a 0) (ha : a ≤ 562949953421312) (hs : s.size ≤ 1099511627776) (B : Nat) (p : Pk) (T : ByteArray) (vd vg vx : Vc) (hO : OwnPk B w p T vd vg vx) (hB : b < B) (hBw : B ≤ w.heap.size) (hk : p.kind = 9) :
    Calls Try.prog 26 #[.pointer (some ⟨b, 0, none⟩), .int .u8 109, .agg (encP p T vd vg vx).toArray] w (FieldPost .m p vx B w b s a) := by
  have S0 := FSt.begin h p T vd vg vx
  have HO := Lib.hid hO
  clear h hO
  have HK : Hid (whose p = p.whom) := Lib.hid (by unfold whose; rw [if_pos hk])
  go_enter Try.func26, Try.ntmps26
  go_upto_region 5 with fail
  change FSt w ((w.alloc (Obj.cells (encP p T vd vg vx).toArray 35)).alloc (Obj.cells #[.int .i64 0, .int .i64 0, .int .i64 0, .int .u64 0, .int .i64 0, .int .i64 0, .int .u32 0, .int .u64 0, .int .i64 0, .slice none 0 0, .string { data := #[] }, .int .u64 0, .int .u32 0, .slice none 0 0, .int .u64 0, .int .i64 0, .int .u32 0, .int .u64 0, .int .u64 0, .int .i64 0, .int .u64 0, .slice none 0 0] 35)) b s a 0 p T vd vg vx at S0
  generalize ((w.alloc (Obj.cells (encP p T vd vg vx).toArray 35)).alloc (Obj.cells #[.int .i64 0, .int .i64 0, .int .i64 0, .int .u64 0, .int .i64 0, .int .i64 0, .int .u32 0, .int .u64 0, .int .i64 0, .slice none 0 0, .string { data := #[] }, .int .u64 0, .int .u32 0, .slice none 0 0, .int .u64 0, .int .i64 0, .int .u32 0, .int .u64 0, .int .u64 0, .int .i64 0, .int .u64 0, .slice none 0 0] 35)) = W0 at *
  have e0 : W0.cell? ⟨w.heap.size, 0, none⟩ = some (.int .i64 p.kind) := S0.row.at_ 0 _ rfl
  have e1 : W0.cell? ⟨w.heap.size, 1, none⟩ = some (.int .i64 p.frm) := S0.row.at_ 1 _ rfl
  have e15 : W0.cell? ⟨w.heap.size, 15, none⟩ = some (.int .i64 p.whom) := S0.row.at_ 15 _ rfl
  go_upto_region 8 with fail
  clear e0 e1 e15
  have hn := (show Calls Try.prog 54 #[.pointer (some ⟨b, 0, none⟩), .int .i64 p.whom] W0 (fun e w' => ∃ (m : PM) (Tm : ByteArray) (v : Vc) (a' c' : Nat), e = .returned (.agg #[.int .i64 m.f, .int .u32 (m.q : Int), .int .u64 (m.s : Int), .int .i64 m.v, .slice v.a v.n v.c, .string Tm]) ∧ Tm.data.toList = m.text ∧ OwnVec W0.heap.size w' v m.deps ∧ a' ≤ a + 100000 ∧ Tk w' b s a' c' ∧ W0.grownBy w' (some b) ∧ TR (getM p.whom) s a 0 a' c' m) from tmessage p.whom S0.tk (by omega) hs)
  go_wp2_with fail
  refine hn.mono ?_
  rintro e w1 ⟨m, Tm, ⟨va, vn, vc⟩, a1, c1, rfl, hTm, V1, hle, T1, G1, R1⟩
  have hsz := S0.sz
  have S1 := S0.go T1 G1
  clear hn S0
  have d5 := S1.row.at_ 5 _ rfl
  have f5 := S1.row.free 5
  have d6 := S1.row.at_ 6 _ rfl
  have f6 := S1.row.free 6
  have d7 := S1.row.at_ 7 _ rfl
  have f7 := S1.row.free 7
  have d8 := S1.row.at_ 8 _ rfl
  have f8 := S1.row.free 8
  have d9 := S1.row.at_ 9 _ rfl
  have f9 := S1.row.free 9
  have d10 := S1.row.at_ 10 _ rfl
  have f10 := S1.row.free 10
  have X0 := S1.set 5 (.int .i64 m.f) (q' := { p with m := { p.m with f := m.f } }) (T' := T) (vd' := vd) (vg' := vg) (vx' := vx) rfl
  have X1 := X0.set 6 (.int .u32 (m.q : Int)) (q' := { p with m := { p.m with f := m.f, q := m.q } }) (T' := T) (vd' := vd) (vg' := vg) (vx' := vx) rfl
  have X2 := X1.set 7 (.int .u64 (m.s : Int)) (q' := { p with m := { p.m with f := m.f, q := m.q, s := m.s } }) (T' := T) (vd' := vd) (vg' := vg) (vx' := vx) rfl
  have X3 := X2.set 8 (.int .i64 m.v) (q' := { p with m := { p.m with f := m.f, q := m.q, s := m.s, v := m.v } }) (T' := T) (vd' := vd) (vg' := vg) (vx' := vx) rfl
  have X4 := X3.set 9 (.slice va vn vc) (q' := { p with m := { p.m with f := m.f, q := m.q, s := m.s, v := m.v } }) (T' := T) (vd' := ⟨va, vn, vc⟩) (vg' := vg) (vx' := vx) rfl
  have X5 := X4.set 10 (.string Tm) (q' := { p with m := m }) (T' := Tm) (vd' := ⟨va, vn, vc⟩) (vg' := vg) (vx' := vx) rfl
  clear S1
  go_upto_region 36 with fail
  clear d5 f5 d6 f6 d7 f7 d8 f8 d9 f9 d10 f10
  obtain ⟨D1, D2, D3⟩ := X5.done
  have OR := X5.row
  have OZ := X5.res
  have HW : Hid (∃ W, W = (((((w1.setCell ⟨w.heap.size, 5, none⟩ (.int .i64 m.f)).setCell ⟨w.heap.size, 6, none⟩ (.int .u32 (m.q : Int))).setCell ⟨w.heap.size, 7, none⟩ (.int .u64 (m.s : Int))).setCell ⟨w.heap.size, 8, none⟩ (.int .i64 m.v)).setCell ⟨w.heap.size, 9, none⟩ (.slice va vn vc)).setCell ⟨w.heap.size, 10, none⟩ (.string Tm)) := Lib.hid ⟨_, rfl⟩
  have HF : Hid (FieldPost .m p vx B w b s a (.returned (.agg (encP { p with m := m } Tm ⟨va, vn, vc⟩ vg vx).toArray)) (((((((w1.setCell ⟨w.heap.size, 5, none⟩ (.int .i64 m.f)).setCell ⟨w.heap.size, 6, none⟩ (.int .u32 (m.q : Int))).setCell ⟨w.heap.size, 7, none⟩ (.int .u64 (m.s : Int))).setCell ⟨w.heap.size, 8, none⟩ (.int .i64 m.v)).setCell ⟨w.heap.size, 9, none⟩ (.slice va vn vc)).setCell ⟨w.heap.size, 10, none⟩ (.string Tm)).setRow (w.heap.size + 1) (encP { p with m := m } Tm ⟨va, vn, vc⟩ vg vx).toArray)) := Lib.hid ⟨{ p with m := m }, Tm, ⟨va, vn, vc⟩, vg, vx, a1, c1, rfl, ⟨hTm, (((((((V1.set (by omega) 5 (.int .i64 m.f)).set (by omega) 6 (.int .u32 (m.q : Int))).set (by omega) 7 (.int .u64 (m.s : Int))).set (by omega) 8 (.int .i64 m.v)).set (by omega) 9 (.slice va vn vc)).set (by omega) 10 (.string Tm)).row (g := w.heap.size + 1) (by omega) _).mono (by omega), (HO.out.grown D3 hB).got, (HO.out.grown D3 hB).xs⟩, by omega, D2, D3, (by have R2 := R1; rw [← HK.out] at R2; exact R2.and (TR.pure _ (fun h => R2.in_ h))), fun _ _ => ⟨rfl, rfl⟩⟩
  have D1 := Lib.hid D1
  clear D2 D3 X5 HW
  generalize (((((w1.setCell ⟨w.heap.size, 5, none⟩ (.int .i64 m.f)).setCell ⟨w.heap.size, 6, none⟩ (.int .u32 (m.q : Int))).setCell ⟨w.heap.size, 7, none⟩ (.int .u64 (m.s : Int))).setCell ⟨w.heap.size, 8, none⟩ (.int .i64 m.v)).setCell ⟨w.heap.size, 9, none⟩ (.slice va vn vc)).setCell ⟨w.heap.size, 10, none⟩ (.string Tm) = W9 at *
  generalize hq : { p with m := m } = q at *
  go_wp2_with (first | (refine load_packet rfl (.tmp 5) rfl w.heap.size rfl OR ?_) | (refine store_packet rfl (.tmp 6) (.tmp 110) rfl (w.heap.size + 1) rfl rfl OZ ?_))
  (try simp only [Exit.inBlock, Exit.then])
  exact bodyPost_ret (results_packet rfl _ _ (w.heap.size + 1) rfl D1.out) rfl HF.out

set_option maxHeartbeats 4000000 in
set_option maxRecDepth 100000 in
theorem tfield_m_o {w : World} {b : Nat} {s : ByteArray} {a : Nat} (h : Tk w b s a 0) (ha : a ≤ 562949953421312) (hs : s.size ≤ 1099511627776) (B : Nat) (p : Pk) (T : ByteArray) (vd vg vx : Vc) (hO : OwnPk B w p T vd vg vx) (hB : b < B) (hBw : B ≤ w.heap.size) (hk : ¬ p.kind = 9) :
    Calls Try.prog 26 #[.pointer (some ⟨b, 0, none⟩), .int .u8 109, .agg (encP p T vd vg vx).toArray] w (FieldPost .m p vx B w b s a) := by
  have S0 := FSt.begin h p T vd vg vx
  have HO := Lib.hid hO
  clear h hO
  have HK : Hid (whose p = p.frm) := Lib.hid (by unfold whose; rw [if_neg hk])
  go_enter Try.func26, Try.ntmps26
  go_upto_region 5 with fail
  change FSt w ((w.alloc (Obj.cells (encP p T vd vg vx).toArray 35)).alloc (Obj.cells #[.int .i64 0, .int .i64 0, .int .i64 0, .int .u64 0, .int .i64 0, .int .i64 0, .int .u32 0, .int .u64 0, .int .i64 0, .slice none 0 0, .string { data := #[] }, .int .u64 0, .int .u32 0, .slice none 0 0, .int .u64 0, .int .i64 0, .int .u32 0, .int .u64 0, .int .u64 0, .int .i64 0, .int .u64 0, .slice none 0 0] 35)) b s a 0 p T vd vg vx at S0
  generalize ((w.alloc (Obj.cells (encP p T vd vg vx).toArray 35)).alloc (Obj.cells #[.int .i64 0, .int .i64 0, .int .i64 0, .int .u64 0, .int .i64 0, .int .i64 0, .int .u32 0, .int .u64 0, .int .i64 0, .slice none 0 0, .string { data := #[] }, .int .u64 0, .int .u32 0, .slice none 0 0, .int .u64 0, .int .i64 0, .int .u32 0, .int .u64 0, .int .u64 0, .int .i64 0, .int .u64 0, .slice none 0 0] 35)) = W0 at *
  have e0 : W0.cell? ⟨w.heap.size, 0, none⟩ = some (.int .i64 p.kind) := S0.row.at_ 0 _ rfl
  have e1 : W0.cell? ⟨w.heap.size, 1, none⟩ = some (.int .i64 p.frm) := S0.row.at_ 1 _ rfl
  have e15 : W0.cell? ⟨w.heap.size, 15, none⟩ = some (.int .i64 p.whom) := S0.row.at_ 15 _ rfl
  go_upto_region 8 with fail
  clear e0 e1 e15
  have hn := (show Calls Try.prog 54 #[.pointer (some ⟨b, 0, none⟩), .int .i64 p.frm] W0 (fun e w' => ∃ (m : PM) (Tm : ByteArray) (v : Vc) (a' c' : Nat), e = .returned (.agg #[.int .i64 m.f, .int .u32 (m.q : Int), .int .u64 (m.s : Int), .int .i64 m.v, .slice v.a v.n v.c, .string Tm]) ∧ Tm.data.toList = m.text ∧ OwnVec W0.heap.size w' v m.deps ∧ a' ≤ a + 100000 ∧ Tk w' b s a' c' ∧ W0.grownBy w' (some b) ∧ TR (getM p.frm) s a 0 a' c' m) from tmessage p.frm S0.tk (by omega) hs)
  go_wp2_with fail
  refine hn.mono ?_
  rintro e w1 ⟨m, Tm, ⟨va, vn, vc⟩, a1, c1, rfl, hTm, V1, hle, T1, G1, R1⟩
  have hsz := S0.sz
  have S1 := S0.go T1 G1
  clear hn S0
  have d5 := S1.row.at_ 5 _ rfl
  have f5 := S1.row.free 5
  have d6 := S1.row.at_ 6 _ rfl
  have f6 := S1.row.free 6
  have d7 := S1.row.at_ 7 _ rfl
  have f7 := S1.row.free 7
  have d8 := S1.row.at_ 8 _ rfl
  have f8 := S1.row.free 8
  have d9 := S1.row.at_ 9 _ rfl
  have f9 := S1.row.free 9
  have d10 := S1.row.at_ 10 _ rfl
  have f10 := S1.row.free 10
  have X0 := S1.set 5 (.int .i64 m.f) (q' := { p with m := { p.m with f := m.f } }) (T' := T) (vd' := vd) (vg' := vg) (vx' := vx) rfl
  have X1 := X0.set 6 (.int .u32 (m.q : Int)) (q' := { p with m := { p.m with f := m.f, q := m.q } }) (T' := T) (vd' := vd) (vg' := vg) (vx' := vx) rfl
  have X2 := X1.set 7 (.int .u64 (m.s : Int)) (q' := { p with m := { p.m with f := m.f, q := m.q, s := m.s } }) (T' := T) (vd' := vd) (vg' := vg) (vx' := vx) rfl
  have X3 := X2.set 8 (.int .i64 m.v) (q' := { p with m := { p.m with f := m.f, q := m.q, s := m.s, v := m.v } }) (T' := T) (vd' := vd) (vg' := vg) (vx' := vx) rfl
  have X4 := X3.set 9 (.slice va vn vc) (q' := { p with m := { p.m with f := m.f, q := m.q, s := m.s, v := m.v } }) (T' := T) (vd' := ⟨va, vn, vc⟩) (vg' := vg) (vx' := vx) rfl
  have X5 := X4.set 10 (.string Tm) (q' := { p with m := m }) (T' := Tm) (vd' := ⟨va, vn, vc⟩) (vg' := vg) (vx' := vx) rfl
  clear S1
  go_upto_region 36 with fail
  clear d5 f5 d6 f6 d7 f7 d8 f8 d9 f9 d10 f10
  obtain ⟨D1, D2, D3⟩ := X5.done
  have OR := X5.row
  have OZ := X5.res
  have HW : Hid (∃ W, W = (((((w1.setCell ⟨w.heap.size, 5, none⟩ (.int .i64 m.f)).setCell ⟨w.heap.size, 6, none⟩ (.int .u32 (m.q : Int))).setCell ⟨w.heap.size, 7, none⟩ (.int .u64 (m.s : Int))).setCell ⟨w.heap.size, 8, none⟩ (.int .i64 m.v)).setCell ⟨w.heap.size, 9, none⟩ (.slice va vn vc)).setCell ⟨w.heap.size, 10, none⟩ (.string Tm)) := Lib.hid ⟨_, rfl⟩
  have HF : Hid (FieldPost .m p vx B w b s a (.returned (.agg (encP { p with m := m } Tm ⟨va, vn, vc⟩ vg vx).toArray)) (((((((w1.setCell ⟨w.heap.size, 5, none⟩ (.int .i64 m.f)).setCell ⟨w.heap.size, 6, none⟩ (.int .u32 (m.q : Int))).setCell ⟨w.heap.size, 7, none⟩ (.int .u64 (m.s : Int))).setCell ⟨w.heap.size, 8, none⟩ (.int .i64 m.v)).setCell ⟨w.heap.size, 9, none⟩ (.slice va vn vc)).setCell ⟨w.heap.size, 10, none⟩ (.string Tm)).setRow (w.heap.size + 1) (encP { p with m := m } Tm ⟨va, vn, vc⟩ vg vx).toArray)) := Lib.hid ⟨{ p with m := m }, Tm, ⟨va, vn, vc⟩, vg, vx, a1, c1, rfl, ⟨hTm, (((((((V1.set (by omega) 5 (.int .i64 m.f)).set (by omega) 6 (.int .u32 (m.q : Int))).set (by omega) 7 (.int .u64 (m.s : Int))).set (by omega) 8 (.int .i64 m.v)).set (by omega) 9 (.slice va vn vc)).set (by omega) 10 (.string Tm)).row (g := w.heap.size + 1) (by omega) _).mono (by omega), (HO.out.grown D3 hB).got, (HO.out.grown D3 hB).xs⟩, by omega, D2, D3, (by have R2 := R1; rw [← HK.out] at R2; exact R2.and (TR.pure _ (fun h => R2.in_ h))), fun _ _ => ⟨rfl, rfl⟩⟩
  have D1 := Lib.hid D1
  clear D2 D3 X5 HW
  generalize (((((w1.setCell ⟨w.heap.size, 5, none⟩ (.int .i64 m.f)).setCell ⟨w.heap.size, 6, none⟩ (.int .u32 (m.q : Int))).setCell ⟨w.heap.size, 7, none⟩ (.int .u64 (m.s : Int))).setCell ⟨w.heap.size, 8, none⟩ (.int .i64 m.v)).setCell ⟨w.heap.size, 9, none⟩ (.slice va vn vc)).setCell ⟨w.heap.size, 10, none⟩ (.string Tm) = W9 at *
  generalize hq : { p with m := m } = q at *
  go_wp2_with (first | (refine load_packet rfl (.tmp 5) rfl w.heap.size rfl OR ?_) | (refine store_packet rfl (.tmp 6) (.tmp 110) rfl (w.heap.size + 1) rfl rfl OZ ?_))
  (try simp only [Exit.inBlock, Exit.then])
  exact bodyPost_ret (results_packet rfl _ _ (w.heap.size + 1) rfl D1.out) rfl HF.out
end Go.Proofs.Ytibngfpjdookkaa

/- The document's reader: fields of some letters. (Written by wip/gen_tkfield.py.) -/
set_option linter.unusedVariables false
set_option linter.unusedSimpArgs false
namespace Go.Proofs.Ytibngfpjdookkaa
open Go.RowKit Go.Sort

/-- One exchange in a row of its own. -/
theorem xs_one {B g : Nat} {W : World} {x : PX} {v : Vc} (hg : B ≤ g) (ho : Own W g 50 (encX x v).toArray) (hv : OwnVec B W v x.cnt) : OwnXs B W ⟨some ⟨g, 0, none⟩, 1, 1⟩ [x] := by
  refine ⟨rfl, .inr ⟨g, _, rfl, hg, ho, fun j y hj => ?_⟩⟩
  match j, hj with
  | 0, hj =>
    cases hj
    exact ⟨v, hv, fun c u hu => by rw [List.getElem?_toArray, Nat.zero_mul, Nat.zero_add]; exact hu⟩
  | j + 1, hj => simp at hj

set_option maxHeartbeats 4000000 in
set_option maxRecDepth 100000 in
theorem tfield_x {w : World} {b : Nat} {s : ByteArray} {a : Nat} (h : Tk w b s a 0) (ha : a ≤ 562949953421312) (hs : s.size ≤ 1099511627776) (B : Nat) (p : Pk) (T : ByteArray) (vd vg vx : Vc) (hO : OwnPk B w p T vd vg vx) (hB : b < B) (hBw : B ≤ w.heap.size) :
    Calls Try.prog 26 #[.pointer (some ⟨b, 0, none⟩), .int .u8 120, .agg (encP p T vd vg vx).toArray] w (FieldPost .x p vx B w b s a) := by
  have S0 := FSt.begin h p T vd vg vx
  have HO := Lib.hid hO
  clear h hO
  go_enter Try.func26, Try.ntmps26
  go_upto_region 28 with fail
  change FSt w ((w.alloc (Obj.cells (encP p T vd vg vx).toArray 35)).alloc (Obj.cells #[.int .i64 0, .int .i64 0, .int .i64 0, .int .u64 0, .int .i64 0, .int .i64 0, .int .u32 0, .int .u64 0, .int .i64 0, .slice none 0 0, .string { data := #[] }, .int .u64 0, .int .u32 0, .slice none 0 0, .int .u64 0, .int .i64 0, .int .u32 0, .int .u64 0, .int .u64 0, .int .i64 0, .int .u64 0, .slice none 0 0] 35)) b s a 0 p T vd vg vx at S0
  generalize ((w.alloc (Obj.cells (encP p T vd vg vx).toArray 35)).alloc (Obj.cells #[.int .i64 0, .int .i64 0, .int .i64 0, .int .u64 0, .int .i64 0, .int .i64 0, .int .u32 0, .int .u64 0, .int .i64 0, .slice none 0 0, .string { data := #[] }, .int .u64 0, .int .u32 0, .slice none 0 0, .int .u64 0, .int .i64 0, .int .u32 0, .int .u64 0, .int .u64 0, .int .i64 0, .int .u64 0, .slice none 0 0] 35)) = W0 at *
  have hn := (show Calls Try.prog 58 #[.pointer (some ⟨b, 0, none⟩)] W0 (fun e w' => ∃ (x : PX) (v : Vc) (a' c' : Nat), e = .returned (.agg #[.int .i64 x.w, .int .u64 (x.old.e : Int), .int .i64 x.old.r, .slice v.a v.n v.c, .int .u64 (x.ls : Int), .int .i64 x.lf]) ∧ OwnVec W0.heap.size w' v x.cnt ∧ a' ≤ a + 1200 ∧ Tk w' b s a' c' ∧ W0.grownBy w' (some b) ∧ TR getX s a 0 a' c' x) from texchange S0.tk (by omega) hs)
  go_wp2_with fail
  refine hn.mono ?_
  rintro e w1 ⟨x, ⟨va, vn, vc⟩, a1, c1, rfl, V1, hle, T1, G1, R1⟩
  have hsz := S0.sz
  have S1' := S0.go T1 G1
  have hw1 := G1.size
  have g21 := S1'.row.at_ 21 _ rfl
  have S1 := S1'.later ((Grw.refl w1).alloc (.cells #[.int .i64 x.w, .int .u64 (x.old.e : Int), .int .i64 x.old.r, .slice va vn vc, .int .u64 (x.ls : Int), .int .i64 x.lf] 50)).below
  have OX := Own.new w1 50 #[.int .i64 x.w, .int .u64 (x.old.e : Int), .int .i64 x.old.r, .slice va vn vc, .int .u64 (x.ls : Int), .int .i64 x.lf]
  have VX := V1.below ((Grw.refl w1).alloc (.cells #[.int .i64 x.w, .int .u64 (x.old.e : Int), .int .i64 x.old.r, .slice va vn vc, .int .u64 (x.ls : Int), .int .i64 x.lf] 50)).below
  clear S1'
  clear hn S0
  have d21 := S1.row.at_ 21 _ rfl
  have f21 := S1.row.free 21
  have X0 := S1.set 21 (.slice (some ⟨w1.heap.size, 0, none⟩) 1 1) (q' := { p with x := [x] }) (T' := T) (vd' := vd) (vg' := vg) (vx' := ⟨some ⟨w1.heap.size, 0, none⟩, 1, 1⟩) rfl
  clear S1
  go_upto_region 36 with fail
  clear d21 f21 g21
  obtain ⟨D1, D2, D3⟩ := X0.done
  have OR := X0.row
  have OZ := X0.res
  have HW : Hid (∃ W, W = (w1.alloc (.cells #[.int .i64 x.w, .int .u64 (x.old.e : Int), .int .i64 x.old.r, .slice va vn vc, .int .u64 (x.ls : Int), .int .i64 x.lf] 50)).setCell ⟨w.heap.size, 21, none⟩ (.slice (some ⟨w1.heap.size, 0, none⟩) 1 1)) := Lib.hid ⟨_, rfl⟩
  have HF : Hid (FieldPost .x p vx B w b s a (.returned (.agg (encP { p with x := [x] } T vd vg ⟨some ⟨w1.heap.size, 0, none⟩, 1, 1⟩).toArray)) (((w1.alloc (.cells #[.int .i64 x.w, .int .u64 (x.old.e : Int), .int .i64 x.old.r, .slice va vn vc, .int .u64 (x.ls : Int), .int .i64 x.lf] 50)).setCell ⟨w.heap.size, 21, none⟩ (.slice (some ⟨w1.heap.size, 0, none⟩) 1 1)).setRow (w.heap.size + 1) (encP { p with x := [x] } T vd vg ⟨some ⟨w1.heap.size, 0, none⟩, 1, 1⟩).toArray)) := Lib.hid ⟨{ p with x := [x] }, T, vd, vg, ⟨some ⟨w1.heap.size, 0, none⟩, 1, 1⟩, a1, c1, rfl, ⟨(HO.out.grown D3 hB).text, (HO.out.grown D3 hB).deps, (HO.out.grown D3 hB).got, xs_one (x := x) (v := ⟨va, vn, vc⟩) (by omega) ((OX.set_other _ _ _ (by omega)).row_other _ (by omega)) (((VX.set (by omega) 21 (.slice (some ⟨w1.heap.size, 0, none⟩) 1 1)).row (g := w.heap.size + 1) (by omega) _).mono (by omega))⟩, by omega, D2, D3, (R1.and (TR.pure _ (fun h => R1.in_ h))), fun h _ => absurd rfl h⟩
  have D1 := Lib.hid D1
  clear D2 D3 X0 HW
  generalize (w1.alloc (.cells #[.int .i64 x.w, .int .u64 (x.old.e : Int), .int .i64 x.old.r, .slice va vn vc, .int .u64 (x.ls : Int), .int .i64 x.lf] 50)).setCell ⟨w.heap.size, 21, none⟩ (.slice (some ⟨w1.heap.size, 0, none⟩) 1 1) = W9 at *
  generalize hq : { p with x := [x] } = q at *
  go_wp2_with (first | (refine load_packet rfl (.tmp 5) rfl w.heap.size rfl OR ?_) | (refine store_packet rfl (.tmp 6) (.tmp 110) rfl (w.heap.size + 1) rfl rfl OZ ?_))
  (try simp only [Exit.inBlock, Exit.then])
  exact bodyPost_ret (results_packet rfl _ _ (w.heap.size + 1) rfl D1.out) rfl HF.out
end Go.Proofs.Ytibngfpjdookkaa

/- Rows of exchanges of the call's own, that are appended to. -/
set_option linter.unusedVariables false
set_option linter.unusedSimpArgs false
namespace Go.Proofs.Ytibngfpjdookkaa
open Go.RowKit Go.Sort

/-- Exchanges and their slices' heads, as cells. -/
def flatX (l : List (PX × Vc)) : List Value := (l.map fun q => encX q.1 q.2).flatten
theorem flatX_snoc (l : List (PX × Vc)) (x : PX) (v : Vc) : flatX (l ++ [(x, v)]) = flatX l ++ encX x v := by unfold flatX; simp
theorem flatX_length (l : List (PX × Vc)) : (flatX l).length = l.length * 6 := by
  induction l with
  | nil => rfl
  | cons q t ih =>
    show (encX q.1 q.2 ++ flatX t).length = _
    rw [List.length_append, ih, List.length_cons]
    show 6 + _ = _
    omega
theorem flatX_at (l : List (PX × Vc)) (i : Nat) (q : PX × Vc) (h : l[i]? = some q) (c : Nat) (hc : c < 6) : (flatX l)[i * 6 + c]? = (encX q.1 q.2)[c]? := by
  obtain ⟨hlt, rfl⟩ := List.getElem?_eq_some_iff.1 h
  have e : l = l.take i ++ l[i] :: l.drop (i + 1) := by
    conv => lhs; rw [← List.take_append_drop i l, List.drop_eq_getElem_cons hlt]
  have e2 : flatX l = flatX (l.take i) ++ (encX l[i].1 l[i].2 ++ flatX (l.drop (i + 1))) := by
    have key : ∀ (A C : List (PX × Vc)) (q : PX × Vc), flatX (A ++ q :: C) = flatX A ++ (encX q.1 q.2 ++ flatX C) := fun A C q => by unfold flatX; simp
    rw [← key]
    exact congrArg flatX e
  have hl : (flatX (l.take i)).length = i * 6 := by rw [flatX_length, List.length_take, Nat.min_eq_left (by omega)]
  rw [e2, List.getElem?_append_right (by omega), hl, Nat.add_sub_cancel_left, List.getElem?_append_left (by show c < 6; exact hc)]
/-- A row of exchanges of the call's own, at B or behind. -/
structure RowX (B : Nat) (w : World) (ao : Option Addr) (k cap : Nat) (l : List (PX × Vc)) : Prop where
  row : w.ownsRow B 50 6 (.slice ao k cap) k (flatX l)
  vecs : ∀ q ∈ l, OwnVec B w q.2 q.1.cnt
theorem RowX.len {B : Nat} {w : World} {ao : Option Addr} {k cap : Nat} {l : List (PX × Vc)} (h : RowX B w ao k cap l) : l.length = k := by
  have := h.row.1
  rw [flatX_length] at this
  omega
theorem RowX.begin (B : Nat) (w : World) : RowX B w none 0 0 [] := ⟨World.ownsRow_nil _ _ _ _, fun q hq => by cases hq⟩
theorem RowX.grown {B b : Nat} {w w' : World} {ao : Option Addr} {k cap : Nat} {l : List (PX × Vc)} (h : RowX B w ao k cap l) (hg : w.grownBy w' (some b)) (hb : b < B) : RowX B w' ao k cap l :=
  ⟨row_grown h.row hg hb, fun q hq => (h.vecs q hq).grown hg hb⟩
theorem RowX.set {B g : Nat} {w : World} {ao : Option Addr} {k cap : Nat} {l : List (PX × Vc)} (h : RowX B w ao k cap l) (hg : g < B) (j : Nat) (v : Value) : RowX B (w.setCell ⟨g, j, none⟩ v) ao k cap l :=
  ⟨row_grown h.row (tgrown_set w g j v) hg, fun q hq => (h.vecs q hq).set hg j v⟩
theorem RowX.below {B : Nat} {w w' : World} {ao : Option Addr} {k cap : Nat} {l : List (PX × Vc)} (h : RowX B w ao k cap l) (hb : Below w.heap.size w w') : RowX B w' ao k cap l :=
  ⟨row_below h.row hb, fun q hq => (h.vecs q hq).below hb⟩
theorem OwnVec.grownO {B : Nat} {w w' : World} {v : Vc} {l : List Nat} {o : Option Nat} (h : OwnVec B w v l) (hg : w.grownBy w' o) (ho : ∀ g cur, Own w g 29 cur → some g ≠ o) : OwnVec B w' v l :=
  ⟨h.len, h.cells.imp id fun ⟨g, cur, e, hB, hO, hc⟩ => ⟨g, cur, e, hB, hO.grown hg (ho g cur hO), hc⟩, h.words⟩
/-- One is appended: a row of exchanges never lies where numbers lie. -/
theorem RowX.step {B : Nat} {w w' : World} {ao ao' : Option Addr} {k cap cap' : Nat} {l : List (PX × Vc)} (h : RowX B w ao k cap l) (x : PX) (v : Vc) (hv : OwnVec B w v x.cnt)
    (hr : w'.ownsRow B 50 6 (.slice ao' (k + 1) cap') (k + 1) (flatX l ++ encX x v)) (hg : w.grownBy w' (Value.slice ao k cap).ownBlock) : RowX B w' ao' (k + 1) cap' (l ++ [(x, v)]) := by
  have hne : ∀ g cur, Own w g 29 cur → some g ≠ (Value.slice ao k cap).ownBlock := by
    intro g cur ho e
    rcases h.row.2 with ⟨h1, _⟩ | ⟨g', c', cur', h1, _, h3, _⟩
    · rw [h1] at e; simp [Value.ownBlock] at e
    · rw [h1] at e
      simp [Value.ownBlock] at e
      subst e
      have := ho.is.symm.trans h3
      injection this with e2
      injection e2 with _ e3 _
      exact absurd e3 (by decide)
  refine ⟨by rw [flatX_snoc]; exact hr, fun q hq => ?_⟩
  rcases List.mem_append.1 hq with h1 | h1
  · exact (h.vecs q h1).grownO hg hne
  · rw [List.mem_singleton.1 h1]; exact hv.grownO hg hne
theorem RowX.xs {B : Nat} {w : World} {ao : Option Addr} {k cap : Nat} {l : List (PX × Vc)} (h : RowX B w ao k cap l) : OwnXs B w ⟨ao, k, cap⟩ (l.map Prod.fst) := by
  have hlen := h.len
  refine ⟨by rw [List.length_map, hlen], ?_⟩
  rcases h.row.2 with ⟨h1, h2⟩ | ⟨g, c, cur, h1, h2, h3, h4, h5, h6, h7⟩
  · injection h1 with e1 e2 e3
    subst e1 e2 e3
    exact .inl rfl
  · injection h1 with e1 e2 e3
    subst e3
    refine .inr ⟨g, cur, e1, h2, h3, fun j x hj => ?_⟩
    rw [List.getElem?_map] at hj
    obtain ⟨q, hq, rfl⟩ : ∃ q, l[j]? = some q ∧ q.1 = x := by
      cases hl : l[j]? with
      | none => rw [hl] at hj; cases hj
      | some q => rw [hl] at hj; exact ⟨q, rfl, by simpa using hj⟩
    refine ⟨q.2, h.vecs q (List.mem_of_getElem? hq), fun c' u hu => ?_⟩
    have hc : c' < 6 := (List.getElem?_eq_some_iff.1 hu).1
    have hjl : j < k := by rw [← hlen]; exact (List.getElem?_eq_some_iff.1 hq).1
    have hf := flatX_at l j q hq c' hc
    rw [hu, ← h7, List.getElem?_take, if_pos (by omega)] at hf
    rw [← Array.getElem?_toList]; exact hf

/-- Amid the loop: so many exchanges were taken, up to there. -/
structure XsRel (s : ByteArray) (n a1 c1 k ak ck : Nat) (xs : List PX) : Prop where
  le : ak ≤ a1 + 1200 * k
  rel : (c1 ≠ 0 ∧ ck = c1 ∧ k = 0) ∨ (c1 = 0 ∧ ck = 0 ∧ ManyAt getX (restB s a1) k xs (restB s ak) ∧ ak ≤ s.size) ∨ (c1 = 0 ∧ ck ≠ 0 ∧ getMany getX n (restB s a1) = .error ck)
set_option maxRecDepth 100000 in
theorem XsRel.begin {s : ByteArray} {n a1 c1 : Nat} (h : c1 = 0 → a1 ≤ s.size) : XsRel s n a1 c1 0 a1 c1 [] := by
  refine ⟨by omega, ?_⟩
  by_cases hc : c1 = 0
  · exact .inr (.inl ⟨hc, hc, ManyAt.begin _ _, h hc⟩)
  · exact .inl ⟨hc, rfl, rfl⟩
set_option maxRecDepth 100000 in
theorem XsRel.step {s : ByteArray} {n a1 c1 k ak a' c' : Nat} {x : PX} {xs : List PX} (h : XsRel s n a1 c1 k ak 0 xs) (hk : k < n) (ha : a' ≤ ak + 1200) (hT : TR getX s ak 0 a' c' x) : XsRel s n a1 c1 (k + 1) a' c' (xs ++ [x]) := by
  refine ⟨by have := h.le; omega, ?_⟩
  rcases h.rel with ⟨h1, h2, _⟩ | ⟨h1, _, hm, hs⟩ | ⟨_, h2, _⟩
  · exact absurd h2.symm h1
  · rcases hT with ⟨h2, _⟩ | ⟨_, h2, hG, hs'⟩ | ⟨_, h2, hG⟩
    · exact absurd rfl h2
    · exact .inr (.inl ⟨h1, h2, hm.step hG, hs'⟩)
    · exact .inr (.inr ⟨h1, h2, hm.error hk hG⟩)
  · exact absurd rfl h2
theorem XsRel.done {s : ByteArray} {n a1 c1 k ak ck : Nat} {xs : List PX} (h : XsRel s n a1 c1 k ak ck xs) (hk : ck = 0 → k = n) : TR (getXs n) s a1 c1 ak ck xs := by
  rcases h.rel with ⟨h1, h2, _⟩ | ⟨h1, h2, hm, hs⟩ | ⟨h1, h2, hG⟩
  · exact .inl ⟨h1, h2⟩
  · have := hk h2
    subst this
    exact .inr (.inl ⟨h1, h2, by rw [getXs_many]; exact hm.done, hs⟩)
  · exact .inr (.inr ⟨h1, h2, by rw [getXs_many]; exact hG⟩)
theorem grown_fst {B : Nat} {w w' : World} {ao : Option Addr} {k cap : Nat} {l : List (PX × Vc)} (h : RowX B w ao k cap l) (hg : w.grownBy w' (Value.slice ao k cap).ownBlock) : ∀ q, (Value.slice ao k cap).ownBlock = some q → B ≤ q := own_behind h.row
end Go.Proofs.Ytibngfpjdookkaa

/- The document's reader: fields of some letters. (Written by wip/gen_tkfield.py.) -/
set_option linter.unusedVariables false
set_option linter.unusedSimpArgs false
namespace Go.Proofs.Ytibngfpjdookkaa
open Go.RowKit Go.Sort

theorem FSt.grownO {w W W' : World} {b : Nat} {s : ByteArray} {a c : Nat} {q : Pk} {T : ByteArray} {vd vg vx : Vc} {o : Option Nat} (h : FSt w W b s a c q T vd vg vx) (hg : W.grownBy W' o) (ho : ∀ k, o = some k → w.heap.size + 2 ≤ k) : FSt w W' b s a c q T vd vg vx :=
  have hl := h.lt
  ⟨h.tk.own.grownO hg (fun k hk => by have := ho k hk; omega), h.row.grownO hg (fun k hk => by have := ho k hk; omega), h.res.grownO hg (fun k hk => by have := ho k hk; omega), grown_more h.gr hg (fun k hk => by have := ho k hk; omega), h.lt⟩
theorem tgrown_row (w : World) (g : Nat) (cs : Array Value) : w.grownBy (w.setRow g cs) (some g) :=
  ⟨rfl, rfl, rfl, by simp, fun k hk ho => setRow_other _ _ _ _ (by intro e; apply ho; rw [e])⟩
theorem tdrop {P : Program} {md : Region.Mode} {ops : Array Oper} {Q : Exit → Act → World → Prop} {S : World → Prop} {i : Nat} {oi : Oper} {v : Value} {fuel : Nat} {listed : Array Bool} {a : Act} {w : World} (d : Nat) (hi : ops[i]? = some oi) (hd : oi.dst = some d)
    (hs : Region.noSelect ops = true) (hf : Region.free md ops listed i = true) (hr : (Region.ready md ops listed).contains i = true)
    (hQ : ∀ c a w, Q (.panic c) (a.put oi.dst v) w → Q (.panic c) a w) (hy : YieldsIf P ops S oi v a) (hS : S w)
    (h : wpAnyH P md ops Q S fuel (listed.setIfInBounds i true) (a.put (some d) v) w) : wpAnyH P md ops Q S (fuel + 1) listed a w :=
  wpAnyH_take hi hs hf hr hQ hy hS (by rw [hd]; exact h)

set_option maxHeartbeats 4000000 in
set_option maxRecDepth 100000 in
theorem tfield_l {w : World} {b : Nat} {s : ByteArray} {a : Nat} (h : Tk w b s a 0) (ha : a ≤ 562949953421312) (hs : s.size ≤ 1099511627776) (B : Nat) (p : Pk) (T : ByteArray) (vd vg vx : Vc) (hO : OwnPk B w p T vd vg vx) (hB : b < B) (hBw : B ≤ w.heap.size) (hpx : p.x = []) (hvx : vx = Vc.nil) :
    Calls Try.prog 26 #[.pointer (some ⟨b, 0, none⟩), .int .u8 108, .agg (encP p T vd vg vx).toArray] w (FieldPost .l p vx B w b s a) := by
  have S0 := FSt.begin h p T vd vg vx
  have HO := Lib.hid hO
  clear h hO
  obtain ⟨i0, hi, hz0, hz1, hz2⟩ := info_parts Try.infoX
  replace hpx := Lib.hid hpx
  replace hvx := Lib.hid hvx
  go_enter Try.func26, Try.ntmps26
  go_upto_region 30 with fail
  change FSt w ((w.alloc (Obj.cells (encP p T vd vg vx).toArray 35)).alloc (Obj.cells #[.int .i64 0, .int .i64 0, .int .i64 0, .int .u64 0, .int .i64 0, .int .i64 0, .int .u32 0, .int .u64 0, .int .i64 0, .slice none 0 0, .string { data := #[] }, .int .u64 0, .int .u32 0, .slice none 0 0, .int .u64 0, .int .i64 0, .int .u32 0, .int .u64 0, .int .u64 0, .int .i64 0, .int .u64 0, .slice none 0 0] 35)) b s a 0 p T vd vg vx at S0
  generalize ((w.alloc (Obj.cells (encP p T vd vg vx).toArray 35)).alloc (Obj.cells #[.int .i64 0, .int .i64 0, .int .i64 0, .int .u64 0, .int .i64 0, .int .i64 0, .int .u32 0, .int .u64 0, .int .i64 0, .slice none 0 0, .string { data := #[] }, .int .u64 0, .int .u32 0, .slice none 0 0, .int .u64 0, .int .i64 0, .int .u32 0, .int .u64 0, .int .u64 0, .int .i64 0, .int .u64 0, .slice none 0 0] 35)) = W0 at *
  have hn := (show Calls Try.prog 55 #[.pointer (some ⟨b, 0, none⟩), .int .i64 1] W0 (NumPost 1 W0 b s a 0) from tnum S0.tk 1 (by decide) (by decide) (by omega) hs)
  go_wp2_with fail
  refine hn.mono ?_
  rintro e w1 ⟨n, c1, rfl, hn256, T1, G1, R1⟩
  replace hn256 : n < 256 := hn256
  have hwv : IntKind.i64.wrap (n : Int) = (n : Int) := by rw [IntKind.wrap_i64]; omega
  have hd : decide ((64 : Int) < (n : Int)) = decide (64 < n) := by apply decide_eq_decide.2; omega
  have S1 := S0.go T1 G1
  have hb : Calls Try.prog 27 #[.pointer (some ⟨b, 0, none⟩), .int .i64 3, .bool (decide (64 < n))] w1 fun e' w' => e' = .returned (.tuple #[]) ∧ Tk w' b s (a + 1) (badC c1 3 (decide (64 < n))) ∧ w1.grownBy w' (some b) := tbad S1.tk 3 (decide (64 < n)) (by decide)
  have HR : Hid (∀ (a' c' : Nat) (l : List PX), TR (getXs n) s (a + 1) (badC c1 3 (decide (64 < n))) a' c' l → TR (getF .l p) s a 0 a' c' { p with x := l }) := Lib.hid (fun a' c' l hT => (show TR getL s a 0 a' c' l from R1.and (TR.bad (by decide) hT)).and (TR.pure _ (fun h => hT.in_ h)))
  have HI : Hid (badC c1 3 (decide (64 < n)) = 0 → a + 1 ≤ s.size) := Lib.hid (fun h => R1.in_bad (by decide) h)
  clear R1
  generalize badC c1 3 (decide (64 < n)) = c2 at *
  generalize decide (64 < n) = q64 at *
  clear hn S0
  go_wp2_with fail
  refine hb.mono ?_
  rintro e w2 ⟨rfl, T2, G2⟩
  have S2 := S1.go T2 G2
  have E0 := XsRel.begin (s := s) (n := n) (a1 := a + 1) (c1 := c2) HI.out
  have hq0 : ({ p with x := ([] : List (PX × Vc)).map Prod.fst } : Pk) = p := by rw [show ([] : List (PX × Vc)).map Prod.fst = p.x by rw [hpx.out]; rfl]
  have hvx := hvx.out
  subst hvx
  rw [← hq0] at S2
  clear hb S1 T2 G2 HI hwv hd hq0
  go_wp2
  go_loopw [9] (fun i wr => ∃ (k ak ck cap : Nat) (ao : Option Addr) (ps : List (PX × Vc)), k ≤ n ∧ i = .int .i64 (k : Int) ∧ FSt w wr b s ak ck { p with x := ps.map Prod.fst } T vd vg ⟨ao, k, cap⟩ ∧ RowX (w.heap.size + 2) wr ao k cap ps ∧ XsRel s n (a + 1) c2 k ak ck (ps.map Prod.fst)) (fun i _ => n - (intOf i).toNat)
  case atStart => exact ⟨0, a + 1, c2, 0, none, [], Nat.zero_le _, rfl, S2, RowX.begin _ _, E0⟩
  case round =>
    clear S2 E0
    obtain ⟨k, ak, ck, cap, ao, ps, hk, rfl, A, X, E⟩ := hrel
    have t2 := A.tk.c2
    have HE := Lib.hid E
    have hle0 := E.le
    by_cases hkn : k < n
    · by_cases hck : ck = 0
      · subst hck
        go_upto_region 35 with fail
        have A0 : FSt w wr.drew b s ak 0 { p with x := ps.map Prod.fst } T vd vg ⟨ao, k, cap⟩ := A.go (A.tk.drewN 1) (grown_drewN _ 1 _)
        have X0 : RowX (w.heap.size + 2) wr.drew ao k cap ps := X.below ((Grw.refl wr).drew).below
        clear A X E t2
        refine wp_region_held_drew (S := fun _ => True) (by kernel_rfl) trivial (fun _ => ?_)
        generalize wr.drew = W at *
        have c21 : W.cell? ⟨w.heap.size, 21, none⟩ = some (.slice ao k cap) := A0.row.at_ 21 _ rfl
        have hn := (show Calls Try.prog 58 #[.pointer (some ⟨b, 0, none⟩)] W (fun e w' => ∃ (x : PX) (v : Vc) (a' c' : Nat), e = .returned (.agg #[.int .i64 x.w, .int .u64 (x.old.e : Int), .int .i64 x.old.r, .slice v.a v.n v.c, .int .u64 (x.ls : Int), .int .i64 x.lf]) ∧ OwnVec W.heap.size w' v x.cnt ∧ a' ≤ ak + 1200 ∧ Tk w' b s a' c' ∧ W.grownBy w' (some b) ∧ TR getX s ak 0 a' c' x) from texchange A0.tk (by omega) hs)
        refine tdrop (i := 0) (v := .pointer (some ⟨w.heap.size, 21, none⟩)) 103 rfl (by kernel_rfl) (by kernel_rfl) (by kernel_rfl) (by kernel_rfl) (fun _ _ _ h => h) (.inl ⟨by kernel_rfl, fun w' hS => by (go_simp)⟩) trivial ?_
        (try simp only [Act.put, List.setIfInBounds_toArray, List.set_cons_zero, List.set_cons_succ])
        refine tdrop (i := 2) (v := .pointer (some ⟨b, 0, none⟩)) 105 rfl (by kernel_rfl) (by kernel_rfl) (by kernel_rfl) (by kernel_rfl) (fun _ _ _ h => h) (.inl ⟨by kernel_rfl, fun w' hS => by (go_simp)⟩) trivial ?_
        (try simp only [Act.put, List.setIfInBounds_toArray, List.set_cons_zero, List.set_cons_succ])
        refine wpAnyH_ready (rs := [1, 3]) (by kernel_rfl) (by simp) (AllReadyH.cons rfl (fun K hK => ?_) (AllReadyH.cons rfl (fun K hK => ?_) AllReadyH.nil))
        · 
          rw [if_pos (by kernel_rfl)]
          go_simp
          refine hK.out _ _ trivial (fun _ => ?_)
          clear hK K
          (try simp only [Act.put, List.setIfInBounds_toArray, List.set_cons_zero, List.set_cons_succ])
          refine wpAnyH_ready (rs := [3]) (by kernel_rfl) (by simp) (AllReadyH.cons rfl (fun K hK => ?_) AllReadyH.nil)
          rw [if_pos (by kernel_rfl)]
          go_simp
          refine hn.mono ?_
          rintro e w1 ⟨x, ⟨va, vn, vc⟩, a1, c1, rfl, V1, hle, T1, G1, R1⟩
          have A1 := A0.go T1 G1
          have X1 := X0.grown G1 (by have := A0.lt; omega)
          have hsz := A0.sz
          have c21a : w1.cell? ⟨w.heap.size, 21, none⟩ = some (.slice ao k cap) := A1.row.at_ 21 _ rfl
          refine hK.out _ _ trivial (fun _ => ?_)
          clear hK K
          (try simp only [Act.put, List.setIfInBounds_toArray, List.set_cons_zero, List.set_cons_succ])
          refine wpAnyH_ready (rs := [4]) (by kernel_rfl) (by simp) (AllReadyH.cons rfl (fun K hK => ?_) AllReadyH.nil)
          rw [if_pos (by kernel_rfl)]
          go_simp
          have A2 := A1.later ((Grw.refl w1).alloc (.cells #[.int .i64 x.w, .int .u64 (x.old.e : Int), .int .i64 x.old.r, .slice va vn vc, .int .u64 (x.ls : Int), .int .i64 x.lf] 50)).below
          have X2 := X1.below ((Grw.refl w1).alloc (.cells #[.int .i64 x.w, .int .u64 (x.old.e : Int), .int .i64 x.old.r, .slice va vn vc, .int .u64 (x.ls : Int), .int .i64 x.lf] 50)).below
          have N2 := Own.new w1 50 #[.int .i64 x.w, .int .u64 (x.old.e : Int), .int .i64 x.old.r, .slice va vn vc, .int .u64 (x.ls : Int), .int .i64 x.lf]
          have V2 := (V1.below ((Grw.refl w1).alloc (.cells #[.int .i64 x.w, .int .u64 (x.old.e : Int), .int .i64 x.old.r, .slice va vn vc, .int .u64 (x.ls : Int), .int .i64 x.lf] 50)).below).mono hsz
          have c21b : (w1.alloc (.cells #[.int .i64 x.w, .int .u64 (x.old.e : Int), .int .i64 x.old.r, .slice va vn vc, .int .u64 (x.ls : Int), .int .i64 x.lf] 50)).cell? ⟨w.heap.size, 21, none⟩ = some (.slice ao k cap) := A2.row.at_ 21 _ rfl
          have hw1 := G1.size
          refine hK.out _ _ trivial (fun _ => ?_)
          clear hK K
          (try simp only [Act.put, List.setIfInBounds_toArray, List.set_cons_zero, List.set_cons_succ])
          refine wpAnyH_ready (rs := [5]) (by kernel_rfl) (by simp) (AllReadyH.cons rfl (fun K hK => ?_) AllReadyH.nil)
          rw [if_pos (by kernel_rfl)]
          refine wp_append_own (w1.alloc (.cells #[.int .i64 x.w, .int .u64 (x.old.e : Int), .int .i64 x.old.r, .slice va vn vc, .int .u64 (x.ls : Int), .int .i64 x.lf] 50)) (.tmp 104) (.tmp 107) 33 rfl (w.heap.size + 2) 50 i0 zeroX 6 64 Try.underlying33 hi hz0 hz1 hz2 rfl (by decide) (.slice ao k cap) k (flatX ps) rfl X2.row ⟨w1.heap.size, 0, none⟩ 1 1 (encX x ⟨va, vn, vc⟩) rfl rfl (fun j u hu => by rw [show (⟨w1.heap.size, 0, none⟩ : Addr).add j = ⟨w1.heap.size, j, none⟩ by cases j <;> simp [Addr.add]]; exact N2.at_ j u (by rw [List.getElem?_toArray]; exact hu)) (fun u hu => by have := encX_all x ⟨va, vn, vc⟩; simp only [List.all_toArray, List.all_eq_true] at this; exact this u hu) (by unfold maxLen; omega) (by omega) (by simp; omega) ?_
          intro v' w3 hown hgrow _
          obtain ⟨ao', cap', rfl⟩ : ∃ ao' cap', v' = .slice ao' (k + 1) cap' := by
            rcases hown.2 with ⟨h1, h2⟩ | ⟨g, c, cur, h1, _⟩
            · omega
            · exact ⟨_, _, h1⟩
          have X3 := X2.step x ⟨va, vn, vc⟩ V2 hown hgrow
          have A3 := A2.grownO hgrow (grown_fst X2 hgrow)
          have c21c : w3.cell? ⟨w.heap.size, 21, none⟩ = some (.slice ao k cap) := A3.row.at_ 21 _ rfl
          have f21 := A3.row.free 21
          refine hK.out _ _ trivial (fun _ => ?_)
          clear hK K
          (try simp only [Act.put, List.setIfInBounds_toArray, List.set_cons_zero, List.set_cons_succ])
          refine tdrop (i := 6) (v := .pointer (some ⟨w.heap.size, 21, none⟩)) 109 rfl (by kernel_rfl) (by kernel_rfl) (by kernel_rfl) (by kernel_rfl) (fun _ _ _ h => h) (.inl ⟨by kernel_rfl, fun w' hS => by (go_simp)⟩) trivial ?_
          (try simp only [Act.put, List.setIfInBounds_toArray, List.set_cons_zero, List.set_cons_succ])
          refine wpAnyH_ready (rs := [7]) (by kernel_rfl) (by simp) (AllReadyH.cons rfl (fun K hK => ?_) AllReadyH.nil)
          rw [if_pos (by kernel_rfl)]
          go_simp
          have A4 := A3.set 21 (.slice ao' (k + 1) cap') (q' := { p with x := (ps ++ [(x, (⟨va, vn, vc⟩ : Vc))]).map Prod.fst }) (T' := T) (vd' := vd) (vg' := vg) (vx' := ⟨ao', k + 1, cap'⟩) rfl
          have X4 := X3.set (show w.heap.size < w.heap.size + 2 by omega) 21 (.slice ao' (k + 1) cap')
          have E4 : XsRel s n (a + 1) c2 (k + 1) a1 c1 ((ps ++ [(x, (⟨va, vn, vc⟩ : Vc))]).map Prod.fst) := by rw [List.map_append]; exact HE.out.step hkn hle R1
          have HA := Lib.hid A4
          have HX := Lib.hid X4
          have HY := Lib.hid E4
          refine hK.out _ _ trivial (fun _ => ?_)
          clear hK K c21c f21 A4 X4 E4 A3 X3
          refine wpAnyH_done (by kernel_rfl) ?_ _
          go_wp2
          go_roundw
          case rel => exact ⟨k + 1, a1, c1, cap', ao', ps ++ [(x, ⟨va, vn, vc⟩)], by omega, by go_num, HA.out, HX.out, HY.out⟩
          case measure => simp [intOf]; omega
        · 
          rw [if_pos (by kernel_rfl)]
          go_simp
          refine hn.mono ?_
          rintro e w1 ⟨x, ⟨va, vn, vc⟩, a1, c1, rfl, V1, hle, T1, G1, R1⟩
          have A1 := A0.go T1 G1
          have X1 := X0.grown G1 (by have := A0.lt; omega)
          have hsz := A0.sz
          have c21a : w1.cell? ⟨w.heap.size, 21, none⟩ = some (.slice ao k cap) := A1.row.at_ 21 _ rfl
          refine hK.out _ _ trivial (fun _ => ?_)
          clear hK K
          (try simp only [Act.put, List.setIfInBounds_toArray, List.set_cons_zero, List.set_cons_succ])
          refine wpAnyH_ready (rs := [1, 4]) (by kernel_rfl) (by simp) (AllReadyH.cons rfl (fun K hK => ?_) (AllReadyH.cons rfl (fun K hK => ?_) AllReadyH.nil))
          · 
            rw [if_pos (by kernel_rfl)]
            go_simp
            refine hK.out _ _ trivial (fun _ => ?_)
            clear hK K
            (try simp only [Act.put, List.setIfInBounds_toArray, List.set_cons_zero, List.set_cons_succ])
            refine wpAnyH_ready (rs := [4]) (by kernel_rfl) (by simp) (AllReadyH.cons rfl (fun K hK => ?_) AllReadyH.nil)
            rw [if_pos (by kernel_rfl)]
            go_simp
            have A2 := A1.later ((Grw.refl w1).alloc (.cells #[.int .i64 x.w, .int .u64 (x.old.e : Int), .int .i64 x.old.r, .slice va vn vc, .int .u64 (x.ls : Int), .int .i64 x.lf] 50)).below
            have X2 := X1.below ((Grw.refl w1).alloc (.cells #[.int .i64 x.w, .int .u64 (x.old.e : Int), .int .i64 x.old.r, .slice va vn vc, .int .u64 (x.ls : Int), .int .i64 x.lf] 50)).below
            have N2 := Own.new w1 50 #[.int .i64 x.w, .int .u64 (x.old.e : Int), .int .i64 x.old.r, .slice va vn vc, .int .u64 (x.ls : Int), .int .i64 x.lf]
            have V2 := (V1.below ((Grw.refl w1).alloc (.cells #[.int .i64 x.w, .int .u64 (x.old.e : Int), .int .i64 x.old.r, .slice va vn vc, .int .u64 (x.ls : Int), .int .i64 x.lf] 50)).below).mono hsz
            have c21b : (w1.alloc (.cells #[.int .i64 x.w, .int .u64 (x.old.e : Int), .int .i64 x.old.r, .slice va vn vc, .int .u64 (x.ls : Int), .int .i64 x.lf] 50)).cell? ⟨w.heap.size, 21, none⟩ = some (.slice ao k cap) := A2.row.at_ 21 _ rfl
            have hw1 := G1.size
            refine hK.out _ _ trivial (fun _ => ?_)
            clear hK K
            (try simp only [Act.put, List.setIfInBounds_toArray, List.set_cons_zero, List.set_cons_succ])
            refine wpAnyH_ready (rs := [5]) (by kernel_rfl) (by simp) (AllReadyH.cons rfl (fun K hK => ?_) AllReadyH.nil)
            rw [if_pos (by kernel_rfl)]
            refine wp_append_own (w1.alloc (.cells #[.int .i64 x.w, .int .u64 (x.old.e : Int), .int .i64 x.old.r, .slice va vn vc, .int .u64 (x.ls : Int), .int .i64 x.lf] 50)) (.tmp 104) (.tmp 107) 33 rfl (w.heap.size + 2) 50 i0 zeroX 6 64 Try.underlying33 hi hz0 hz1 hz2 rfl (by decide) (.slice ao k cap) k (flatX ps) rfl X2.row ⟨w1.heap.size, 0, none⟩ 1 1 (encX x ⟨va, vn, vc⟩) rfl rfl (fun j u hu => by rw [show (⟨w1.heap.size, 0, none⟩ : Addr).add j = ⟨w1.heap.size, j, none⟩ by cases j <;> simp [Addr.add]]; exact N2.at_ j u (by rw [List.getElem?_toArray]; exact hu)) (fun u hu => by have := encX_all x ⟨va, vn, vc⟩; simp only [List.all_toArray, List.all_eq_true] at this; exact this u hu) (by unfold maxLen; omega) (by omega) (by simp; omega) ?_
            intro v' w3 hown hgrow _
            obtain ⟨ao', cap', rfl⟩ : ∃ ao' cap', v' = .slice ao' (k + 1) cap' := by
              rcases hown.2 with ⟨h1, h2⟩ | ⟨g, c, cur, h1, _⟩
              · omega
              · exact ⟨_, _, h1⟩
            have X3 := X2.step x ⟨va, vn, vc⟩ V2 hown hgrow
            have A3 := A2.grownO hgrow (grown_fst X2 hgrow)
            have c21c : w3.cell? ⟨w.heap.size, 21, none⟩ = some (.slice ao k cap) := A3.row.at_ 21 _ rfl
            have f21 := A3.row.free 21
            refine hK.out _ _ trivial (fun _ => ?_)
            clear hK K
            (try simp only [Act.put, List.setIfInBounds_toArray, List.set_cons_zero, List.set_cons_succ])
            refine tdrop (i := 6) (v := .pointer (some ⟨w.heap.size, 21, none⟩)) 109 rfl (by kernel_rfl) (by kernel_rfl) (by kernel_rfl) (by kernel_rfl) (fun _ _ _ h => h) (.inl ⟨by kernel_rfl, fun w' hS => by (go_simp)⟩) trivial ?_
            (try simp only [Act.put, List.setIfInBounds_toArray, List.set_cons_zero, List.set_cons_succ])
            refine wpAnyH_ready (rs := [7]) (by kernel_rfl) (by simp) (AllReadyH.cons rfl (fun K hK => ?_) AllReadyH.nil)
            rw [if_pos (by kernel_rfl)]
            go_simp
            have A4 := A3.set 21 (.slice ao' (k + 1) cap') (q' := { p with x := (ps ++ [(x, (⟨va, vn, vc⟩ : Vc))]).map Prod.fst }) (T' := T) (vd' := vd) (vg' := vg) (vx' := ⟨ao', k + 1, cap'⟩) rfl
            have X4 := X3.set (show w.heap.size < w.heap.size + 2 by omega) 21 (.slice ao' (k + 1) cap')
            have E4 : XsRel s n (a + 1) c2 (k + 1) a1 c1 ((ps ++ [(x, (⟨va, vn, vc⟩ : Vc))]).map Prod.fst) := by rw [List.map_append]; exact HE.out.step hkn hle R1
            have HA := Lib.hid A4
            have HX := Lib.hid X4
            have HY := Lib.hid E4
            refine hK.out _ _ trivial (fun _ => ?_)
            clear hK K c21c f21 A4 X4 E4 A3 X3
            refine wpAnyH_done (by kernel_rfl) ?_ _
            go_wp2
            go_roundw
            case rel => exact ⟨k + 1, a1, c1, cap', ao', ps ++ [(x, ⟨va, vn, vc⟩)], by omega, by go_num, HA.out, HX.out, HY.out⟩
            case measure => simp [intOf]; omega
          · 
            rw [if_pos (by kernel_rfl)]
            go_simp
            have A2 := A1.later ((Grw.refl w1).alloc (.cells #[.int .i64 x.w, .int .u64 (x.old.e : Int), .int .i64 x.old.r, .slice va vn vc, .int .u64 (x.ls : Int), .int .i64 x.lf] 50)).below
            have X2 := X1.below ((Grw.refl w1).alloc (.cells #[.int .i64 x.w, .int .u64 (x.old.e : Int), .int .i64 x.old.r, .slice va vn vc, .int .u64 (x.ls : Int), .int .i64 x.lf] 50)).below
            have N2 := Own.new w1 50 #[.int .i64 x.w, .int .u64 (x.old.e : Int), .int .i64 x.old.r, .slice va vn vc, .int .u64 (x.ls : Int), .int .i64 x.lf]
            have V2 := (V1.below ((Grw.refl w1).alloc (.cells #[.int .i64 x.w, .int .u64 (x.old.e : Int), .int .i64 x.old.r, .slice va vn vc, .int .u64 (x.ls : Int), .int .i64 x.lf] 50)).below).mono hsz
            have c21b : (w1.alloc (.cells #[.int .i64 x.w, .int .u64 (x.old.e : Int), .int .i64 x.old.r, .slice va vn vc, .int .u64 (x.ls : Int), .int .i64 x.lf] 50)).cell? ⟨w.heap.size, 21, none⟩ = some (.slice ao k cap) := A2.row.at_ 21 _ rfl
            have hw1 := G1.size
            refine hK.out _ _ trivial (fun _ => ?_)
            clear hK K
            (try simp only [Act.put, List.setIfInBounds_toArray, List.set_cons_zero, List.set_cons_succ])
            refine wpAnyH_ready (rs := [1]) (by kernel_rfl) (by simp) (AllReadyH.cons rfl (fun K hK => ?_) AllReadyH.nil)
            rw [if_pos (by kernel_rfl)]
            go_simp
            refine hK.out _ _ trivial (fun _ => ?_)
            clear hK K
            (try simp only [Act.put, List.setIfInBounds_toArray, List.set_cons_zero, List.set_cons_succ])
            refine wpAnyH_ready (rs := [5]) (by kernel_rfl) (by simp) (AllReadyH.cons rfl (fun K hK => ?_) AllReadyH.nil)
            rw [if_pos (by kernel_rfl)]
            refine wp_append_own (w1.alloc (.cells #[.int .i64 x.w, .int .u64 (x.old.e : Int), .int .i64 x.old.r, .slice va vn vc, .int .u64 (x.ls : Int), .int .i64 x.lf] 50)) (.tmp 104) (.tmp 107) 33 rfl (w.heap.size + 2) 50 i0 zeroX 6 64 Try.underlying33 hi hz0 hz1 hz2 rfl (by decide) (.slice ao k cap) k (flatX ps) rfl X2.row ⟨w1.heap.size, 0, none⟩ 1 1 (encX x ⟨va, vn, vc⟩) rfl rfl (fun j u hu => by rw [show (⟨w1.heap.size, 0, none⟩ : Addr).add j = ⟨w1.heap.size, j, none⟩ by cases j <;> simp [Addr.add]]; exact N2.at_ j u (by rw [List.getElem?_toArray]; exact hu)) (fun u hu => by have := encX_all x ⟨va, vn, vc⟩; simp only [List.all_toArray, List.all_eq_true] at this; exact this u hu) (by unfold maxLen; omega) (by omega) (by simp; omega) ?_
            intro v' w3 hown hgrow _
            obtain ⟨ao', cap', rfl⟩ : ∃ ao' cap', v' = .slice ao' (k + 1) cap' := by
              rcases hown.2 with ⟨h1, h2⟩ | ⟨g, c, cur, h1, _⟩
              · omega
              · exact ⟨_, _, h1⟩
            have X3 := X2.step x ⟨va, vn, vc⟩ V2 hown hgrow
            have A3 := A2.grownO hgrow (grown_fst X2 hgrow)
            have c21c : w3.cell? ⟨w.heap.size, 21, none⟩ = some (.slice ao k cap) := A3.row.at_ 21 _ rfl
            have f21 := A3.row.free 21
            refine hK.out _ _ trivial (fun _ => ?_)
            clear hK K
            (try simp only [Act.put, List.setIfInBounds_toArray, List.set_cons_zero, List.set_cons_succ])
            refine tdrop (i := 6) (v := .pointer (some ⟨w.heap.size, 21, none⟩)) 109 rfl (by kernel_rfl) (by kernel_rfl) (by kernel_rfl) (by kernel_rfl) (fun _ _ _ h => h) (.inl ⟨by kernel_rfl, fun w' hS => by (go_simp)⟩) trivial ?_
            (try simp only [Act.put, List.setIfInBounds_toArray, List.set_cons_zero, List.set_cons_succ])
            refine wpAnyH_ready (rs := [7]) (by kernel_rfl) (by simp) (AllReadyH.cons rfl (fun K hK => ?_) AllReadyH.nil)
            rw [if_pos (by kernel_rfl)]
            go_simp
            have A4 := A3.set 21 (.slice ao' (k + 1) cap') (q' := { p with x := (ps ++ [(x, (⟨va, vn, vc⟩ : Vc))]).map Prod.fst }) (T' := T) (vd' := vd) (vg' := vg) (vx' := ⟨ao', k + 1, cap'⟩) rfl
            have X4 := X3.set (show w.heap.size < w.heap.size + 2 by omega) 21 (.slice ao' (k + 1) cap')
            have E4 : XsRel s n (a + 1) c2 (k + 1) a1 c1 ((ps ++ [(x, (⟨va, vn, vc⟩ : Vc))]).map Prod.fst) := by rw [List.map_append]; exact HE.out.step hkn hle R1
            have HA := Lib.hid A4
            have HX := Lib.hid X4
            have HY := Lib.hid E4
            refine hK.out _ _ trivial (fun _ => ?_)
            clear hK K c21c f21 A4 X4 E4 A3 X3
            refine wpAnyH_done (by kernel_rfl) ?_ _
            go_wp2
            go_roundw
            case rel => exact ⟨k + 1, a1, c1, cap', ao', ps ++ [(x, ⟨va, vn, vc⟩)], by omega, by go_num, HA.out, HX.out, HY.out⟩
            case measure => simp [intOf]; omega
      · have hne : ((ck : Int) == 0) = false := by rw [beq_eq_false_iff_ne]; omega
        have HX := Lib.hid X
        have HTR := Lib.hid (HR.out _ _ _ (E.done (fun h => absurd h hck)))
        go_upto_region 36 with fail
        obtain ⟨D1, D2, D3⟩ := A.done
        have OR := A.row
        have OZ := A.res
        have HF : Hid (FieldPost .l p Vc.nil B w b s a (.returned (.agg (encP { p with x := ps.map Prod.fst } T vd vg ⟨ao, k, cap⟩).toArray)) (wr.setRow (w.heap.size + 1) (encP { p with x := ps.map Prod.fst } T vd vg ⟨ao, k, cap⟩).toArray)) := Lib.hid ⟨{ p with x := ps.map Prod.fst }, T, vd, vg, ⟨ao, k, cap⟩, ak, ck, rfl, ⟨(HO.out.grown D3 hB).text, (HO.out.grown D3 hB).deps, (HO.out.grown D3 hB).got, ((HX.out.grown (tgrown_row wr (w.heap.size + 1) _) (by omega)).xs).mono (by omega)⟩, by omega, D2, D3, HTR.out, fun _ h => absurd rfl h⟩
        have D1 := Lib.hid D1
        clear D2 D3 A X E t2
        generalize hq : ({ p with x := ps.map Prod.fst } : Pk) = q at *
        go_wp2_with (first | (refine load_packet rfl (.tmp 5) rfl w.heap.size rfl OR ?_) | (refine store_packet rfl (.tmp 6) (.tmp 110) rfl (w.heap.size + 1) rfl rfl OZ ?_))
        (try simp only [Exit.inBlock, Exit.then])
        exact bodyPost_ret (results_packet rfl _ _ (w.heap.size + 1) rfl D1.out) rfl HF.out
    · obtain rfl : k = n := by omega
      have HX := Lib.hid X
      have HTR := Lib.hid (HR.out _ _ _ (E.done (fun _ => rfl)))
      go_upto_region 36 with fail
      obtain ⟨D1, D2, D3⟩ := A.done
      have OR := A.row
      have OZ := A.res
      have HF : Hid (FieldPost .l p Vc.nil B w b s a (.returned (.agg (encP { p with x := ps.map Prod.fst } T vd vg ⟨ao, k, cap⟩).toArray)) (wr.setRow (w.heap.size + 1) (encP { p with x := ps.map Prod.fst } T vd vg ⟨ao, k, cap⟩).toArray)) := Lib.hid ⟨{ p with x := ps.map Prod.fst }, T, vd, vg, ⟨ao, k, cap⟩, ak, ck, rfl, ⟨(HO.out.grown D3 hB).text, (HO.out.grown D3 hB).deps, (HO.out.grown D3 hB).got, ((HX.out.grown (tgrown_row wr (w.heap.size + 1) _) (by omega)).xs).mono (by omega)⟩, by omega, D2, D3, HTR.out, fun _ h => absurd rfl h⟩
      have D1 := Lib.hid D1
      clear D2 D3 A X E t2
      generalize hq : ({ p with x := ps.map Prod.fst } : Pk) = q at *
      go_wp2_with (first | (refine load_packet rfl (.tmp 5) rfl w.heap.size rfl OR ?_) | (refine store_packet rfl (.tmp 6) (.tmp 110) rfl (w.heap.size + 1) rfl rfl OZ ?_))
      (try simp only [Exit.inBlock, Exit.then])
      exact bodyPost_ret (results_packet rfl _ _ (w.heap.size + 1) rfl D1.out) rfl HF.out
end Go.Proofs.Ytibngfpjdookkaa
