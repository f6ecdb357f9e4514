/- The contract of the law's Few: it answers. -/
import Derived.Test.YtgkddjapcdjalaaPkVal
import Derived.Test.YtgkddjapcdjalaaWrAll
import Derived.Deep.DeepCutAuto
set_option linter.unusedVariables false
set_option linter.unusedSimpArgs false
namespace Go.Proofs.Ytgkddjapcdjalaa
open Go.RowKit Go.Sort

def Bools (e : Ending) : Prop := ∃ b, e = .returned (.bool b)
theorem bools_of {e : Ending} {b : Bool} (h : e = .returned (.bool b)) : Bools e := ⟨b, h⟩
set_option maxHeartbeats 4000000 in
set_option maxRecDepth 100000 in
theorem pkFew (w : World) (p : Pk) (T : ByteArray) (vd vg vx : Vc) (ht : PkAt w p T vd vg vx) (hsm : Small p) :
    Calls Try.prog 12 #[.agg (encP p T vd vg vx).toArray] w fun e w' => Bools e ∧ Grw w w' := by
  have hd : vd.n ≤ 1048576 := by rw [← ht.deps.len]; exact hsm.deps
  have hgn : vg.n ≤ 1048576 := by rw [← ht.got.len]; exact hsm.got
  have hxn : vx.n ≤ 1048576 := by rw [← ht.xs.len]; exact hsm.xs
  have hT : T.size ≤ 1048576 := by rw [size_text ht.text]; exact hsm.text
  have hxl := ht.xs.len
  have HX := Lib.hid ht.xs
  have HC := Lib.hid hsm.cnt
  clear ht hsm
  obtain ⟨da, dn, dc⟩ := vd
  obtain ⟨ga, gn, gc⟩ := vg
  obtain ⟨xa, xn, xc⟩ := vx
  simp only at hd hgn hxn hxl
  rw [show (encP p T ⟨da, dn, dc⟩ ⟨ga, gn, gc⟩ ⟨xa, xn, xc⟩).toArray = #[.int .i64 p.kind, .int .i64 p.frm, .int .i64 p.to, .int .u64 (p.conf.e : Int), .int .i64 p.conf.r, .int .i64 p.m.f, .int .u32 (p.m.q : Int), .int .u64 (p.m.s : Int), .int .i64 p.m.v, .slice da dn dc, .string T, .int .u64 (p.stamp : Int), .int .u32 (p.sent : Int), .slice ga gn gc, .int .u64 (p.hor : Int), .int .i64 p.whom, .int .u32 (p.seq : Int), .int .u64 (p.mem : Int), .int .u64 (p.prom.e : Int), .int .i64 p.prom.r, .int .u64 (p.epoch : Int), .slice xa xn xc] from rfl]
  have O0 := Own.new w 35 #[.int .i64 p.kind, .int .i64 p.frm, .int .i64 p.to, .int .u64 (p.conf.e : Int), .int .i64 p.conf.r, .int .i64 p.m.f, .int .u32 (p.m.q : Int), .int .u64 (p.m.s : Int), .int .i64 p.m.v, .slice da dn dc, .string T, .int .u64 (p.stamp : Int), .int .u32 (p.sent : Int), .slice ga gn gc, .int .u64 (p.hor : Int), .int .i64 p.whom, .int .u32 (p.seq : Int), .int .u64 (p.mem : Int), .int .u64 (p.prom.e : Int), .int .i64 p.prom.r, .int .u64 (p.epoch : Int), .slice xa xn xc]
  have G0 := (Grw.refl w).alloc (.cells #[.int .i64 p.kind, .int .i64 p.frm, .int .i64 p.to, .int .u64 (p.conf.e : Int), .int .i64 p.conf.r, .int .i64 p.m.f, .int .u32 (p.m.q : Int), .int .u64 (p.m.s : Int), .int .i64 p.m.v, .slice da dn dc, .string T, .int .u64 (p.stamp : Int), .int .u32 (p.sent : Int), .slice ga gn gc, .int .u64 (p.hor : Int), .int .i64 p.whom, .int .u32 (p.seq : Int), .int .u64 (p.mem : Int), .int .u64 (p.prom.e : Int), .int .i64 p.prom.r, .int .u64 (p.epoch : Int), .slice xa xn xc] 35)
  obtain ⟨W, hW⟩ : ∃ W, W = w.alloc (.cells #[.int .i64 p.kind, .int .i64 p.frm, .int .i64 p.to, .int .u64 (p.conf.e : Int), .int .i64 p.conf.r, .int .i64 p.m.f, .int .u32 (p.m.q : Int), .int .u64 (p.m.s : Int), .int .i64 p.m.v, .slice da dn dc, .string T, .int .u64 (p.stamp : Int), .int .u32 (p.sent : Int), .slice ga gn gc, .int .u64 (p.hor : Int), .int .i64 p.whom, .int .u32 (p.seq : Int), .int .u64 (p.mem : Int), .int .u64 (p.prom.e : Int), .int .i64 p.prom.r, .int .u64 (p.epoch : Int), .slice xa xn xc] 35) := ⟨_, rfl⟩
  rw [← hW] at O0 G0
  have hlt := O0.lt
  have c9 : W.cell? ⟨w.heap.size, 9, none⟩ = some (.slice da dn dc) := O0.at_ 9 _ rfl
  have c10 : W.cell? ⟨w.heap.size, 10, none⟩ = some (.string T) := O0.at_ 10 _ rfl
  have c13 : W.cell? ⟨w.heap.size, 13, none⟩ = some (.slice ga gn gc) := O0.at_ 13 _ rfl
  have c21 : W.cell? ⟨w.heap.size, 21, none⟩ = some (.slice xa xn xc) := O0.at_ 21 _ rfl
  have HG := Lib.hid G0
  have HW := Lib.hid hW
  clear O0 G0 hW
  go_enter Try.func12, Try.ntmps12
  go_wp2
  all_goals
    go_loopw [3, 4] (fun sn si wr => ∃ (k : Nat) (n : Int), k ≤ xn ∧ 0 ≤ n ∧ n ≤ 150000 ∧ si = .int .i64 k ∧ sn = .int .i64 n ∧ wr = W) (fun _ si _ => xn - (intOf si).toNat)
    case atStart => exact ⟨0, _, Nat.zero_le _, by omega, by omega, rfl, rfl, HW.out.symm⟩
    case round =>
      obtain ⟨k, n, hk, hn0, hn1, rfl, rfl, rfl⟩ := hrel
      by_cases hlt2 : k < xn
      · have hkl : k < p.x.length := by omega
        obtain ⟨bx, ox, vc, e1, hv, cc⟩ := HX.out.at_ k _ (List.getElem?_eq_getElem hkl)
        simp only at e1
        subst e1
        have hcn := HC.out _ (List.getElem_mem hkl)
        have d3 := cell_later HG.out.below (cc 3 (.slice vc.a vc.n vc.c) rfl)
        have hvn : vc.n ≤ 1048576 := by rw [← hv.len]; exact hcn
        clear cc hv hcn hkl
        obtain ⟨va, vn, vcc⟩ := vc
        simp only at d3 hvn
        by_cases h9 : (vn : Int) ≤ 50000
        · by_cases h5 : n + 1 + (vn : Int) ≤ 50000
          · have h6 : ¬ 50000 < n + 1 + (vn : Int) := by omega
            go_wp2
            go_roundw
            case rel => exact ⟨k + 1, n + 1 + (vn : Int), by omega, by omega, by omega, by go_num, by first | exact ⟨rfl, rfl⟩ | exact ⟨rfl, trivial⟩ | simp⟩
            case measure => simp [intOf]; omega
          · have h6 : 50000 < n + 1 + (vn : Int) := by omega
            go_wp2
            go_ret
            exact ⟨bools_of rfl, HG.out⟩
        · have h6 : 50000 < n + 1 + 50000 := by omega
          go_wp2
          all_goals
            go_ret
            exact ⟨bools_of rfl, HG.out⟩
      · go_wp2
        go_ret
        exact ⟨bools_of rfl, HG.out⟩
end Go.Proofs.Ytgkddjapcdjalaa
