/- The document's window: Next. (Written by wip/gen_refnext.py.) -/
import Derived.Test.YtlmajpckgjnbdaaRefWn2
import Derived.Deep.RegionHeld
set_option linter.unusedVariables false
set_option linter.unusedSimpArgs false
namespace Go.Proofs.Ytlmajpckgjnbdaa
open Go.RowKit Go.Sort

theorem results_rw3 {fn : Func} {p u v : Tmp} (h : fn.results = #[.cell p 32, .tmp u, .tmp v]) (tmps : Array Value) (w : World) (g : Nat) (W : Wn) (hp : tmps.getD p undef = .pointer (some ⟨g, 0, none⟩)) (hg : RwB w g W) :
    (results fn tmps).run Try.prog w = .ok (.tuple #[.agg (rW W), tmps.getD u undef, tmps.getD v undef]) w := by
  have hp' : tmps[p]?.getD undef = .pointer (some ⟨g, 0, none⟩) := by simpa using hp
  simp [results, h, hp', asAddr, run_rw hg]
theorem RwB.drewN {w : World} {g : Nat} {W : Wn} (h : RwB w g W) (n : Nat) : RwB (w.drewN n) g W := h
theorem rtake {P : Program} {md : Region.Mode} {ops : Array Oper} {Q : Exit → Act → World → Prop} {S : World → Prop} {i : Nat} {oi : Oper} {v : Value} {fuel : Nat} {listed : Array Bool} {a : Act} {w : World} (d : Nat) (hi : ops[i]? = some oi) (hd : oi.dst = some d)
    (hs : Region.noSelect ops = true) (hf : Region.free md ops listed i = true) (hr : (Region.ready md ops listed).contains i = true)
    (hQ : ∀ c a w, Q (.panic c) (a.put oi.dst v) w → Q (.panic c) a w) (hy : YieldsIf P ops S oi v a) (hS : S w)
    (h : wpAnyH P md ops Q S fuel (listed.setIfInBounds i true) (a.put (some d) v) w) : wpAnyH P md ops Q S (fuel + 1) listed a w :=
  wpAnyH_take hi hs hf hr hQ hy hS (by rw [hd]; exact h)
theorem yields_rw {ops : Array Oper} {S : World → Prop} {op : Oper} {a : Act} (hw : Region.wanted op (yielded ops a.tmps) = true) (x : Operand) (ho : op.op = .load 32 x)
    (g : Nat) (W : Wn) (hx : a.eval x = .pointer (some ⟨g, 0, none⟩)) (hS : ∀ w, S w → RwB w g W) : YieldsIf Try.prog ops S op (.agg (rW W)) a :=
  .inl ⟨hw, fun w hw' => by
    unfold execOp
    simp only [ho, hx, Instr.loadAt, Instr.sureAddr, Sem.run_bind, Sem.run_pure, Result.andThen_ok, run_rw (hS w hw')]⟩
theorem RwB.row {w : World} {g k : Nat} {W : Wn} (h : RwB w g W) (hk : g ≠ k) (cs : Array Value) : RwB (w.setRow k cs) g W := (setRow_other _ _ _ _ hk).trans h
set_option maxHeartbeats 4000000 in
set_option maxRecDepth 100000 in
theorem rnext11 {W : Wn} (hok : W.ok) (r : Int) (r0 : -9223372036854775808 ≤ r) (r1 : r ≤ 9223372036854775807) (hs : W.sent ≤ 1000000) (w : World) :
    Calls Try.prog 13 #[.agg (rW W), .int .i64 r] w fun e w' => e = .returned (.tuple #[.agg (rW (nextN W r)), .int .u32 (numN W r : Nat), .int .i64 (codeN W r)]) ∧ Below w.heap.size w w' := by
  have B := (RwB.new w W).below ((Grw.refl _).alloc (.cells zRow 32)).below
  have Z := Own.new (w.alloc (.cells (rW W) 32)) 32 zRow
  rw [show (w.alloc (.cells (rW W) 32)).heap.size = w.heap.size + 1 by simp] at Z
  have L := Lib.hid (((Grw.refl w).alloc (.cells (rW W) 32)).alloc (.cells zRow 32)).below
  have hz := Lib.hid zRow_run
  have hzs := Lib.hid zRow_size
  have RM := fun V => rroom11 hok r r0 r1 V
  have HB := Lib.hid B
  have HZ := Lib.hid Z
  clear B Z hok
  cases hr : roomN W r with
  | false =>
    rw [hr] at RM
    rw [numN_no hr, codeN_no hr, nextN_no hr]
    replace RM := Lib.hid RM
    clear hr hs
    go_enter Try.func13, Try.ntmps13
    go_upto_region 1 with (with_reducible refine step_alloc rfl 32 rfl zRow (hz.out _) ?_)
    generalize (w.alloc (.cells (rW W) 32)).alloc (.cells zRow 32) = V at *
    go_wp2_with (refine load_rw rfl (.tmp 2) rfl w.heap.size W rfl HB.out ?_)
    refine (RM.out V).mono ?_
    rintro e V2 ⟨rfl, L2⟩
    have HB2 := Lib.hid (HB.out.below L2)
    have HZ2 := Lib.hid (HZ.out.below L2 HZ.out.lt)
    have L3 := Lib.hid (L.out.trans (L2.mono L.out.size))
    clear L2 RM HB HZ
    go_wp2_with (first | (refine load_rw rfl (.tmp 2) rfl w.heap.size W rfl HB2.out ?_) | (refine store_rw rfl (.tmp 4) (.tmp 11) rfl (w.heap.size + 1) W rfl rfl HZ2.out hzs.out ?_))
    (try simp only [Exit.inBlock, Exit.then])
    refine bodyPost_ret (results_rw3 rfl _ _ (w.heap.size + 1) W rfl (setRow_rw HZ2.out W)) rfl ?_
    exact ⟨rfl, lbelowRow L3.out _ (Nat.le_succ _) _⟩
  | true =>
    rw [hr] at RM
    rw [numN_yes hr, codeN_yes hr, nextN_yes hr]
    replace RM := Lib.hid RM
    obtain ⟨m, hm⟩ : ∃ m, m = W.sent + 1 := ⟨_, rfl⟩
    have hmi : (W.sent : Int) + 1 = (m : Int) := by omega
    have hmw : IntKind.u32.wrap (m : Int) = (m : Int) := IntWalk.u32_in _ (by omega)
    have HM := Lib.hid hm
    rw [← hm]
    clear hr hs hm
    go_enter Try.func13, Try.ntmps13
    go_upto_region 1 with (with_reducible refine step_alloc rfl 32 rfl zRow (hz.out _) ?_)
    generalize (w.alloc (.cells (rW W) 32)).alloc (.cells zRow 32) = V at *
    go_wp2_with (refine load_rw rfl (.tmp 2) rfl w.heap.size W rfl HB.out ?_)
    refine (RM.out V).mono ?_
    rintro e V2 ⟨rfl, L2⟩
    have HB2 := HB.out.below L2
    have HZ2 := HZ.out.below L2 HZ.out.lt
    have L3 := L.out.trans (L2.mono L.out.size)
    have cs := HB2.cs
    have fs := HB2.free 66
    have B3 := HB2.send
    rw [← HM.out] at B3
    have HB3 := Lib.hid B3
    have HZ3 := Lib.hid (HZ2.set_other w.heap.size 66 (.int .u32 (m : Int)) (by omega))
    have L4 := Lib.hid (Go.RowKit.Below.setCell L3 (show w.heap.size ≤ (⟨w.heap.size, 66, none⟩ : Addr).block from Nat.le_refl _) (.int .u32 (m : Int)))
    clear L2 RM HB HZ HB2 HZ2 L3 B3
    go_upto_region 4 with fail
    generalize V2.setCell ⟨w.heap.size, 66, none⟩ (.int .u32 (m : Int)) = V3 at *
    have HD : RwB V3.drew w.heap.size { W with sent := m } := HB3.out
    have HZD := Lib.hid (show Own V3.drew (w.heap.size + 1) 32 zRow from HZ3.out)
    have L5 := Lib.hid (show Below w.heap.size w V3.drew from L4.out.trans ((Grw.refl V3).drew.below.mono L4.out.size))
    clear HB3 HZ3 L4
    refine wp_region_held_drew (S := fun w' => RwB w' w.heap.size { W with sent := m }) (by kernel_rfl) HD (fun hHeld => ?_)
    clear HD
    generalize V3.drew = V4 at *
    refine rtake (i := 0) (v := (.agg (rW { W with sent := m }))) 16 rfl (by kernel_rfl) (by kernel_rfl) (by kernel_rfl) (by kernel_rfl) (fun _ _ _ h => h) (yields_rw (by kernel_rfl) (.tmp 2) rfl w.heap.size { W with sent := m } (by kernel_rfl) (fun _ h => h)) hHeld ?_
    (try simp only [Act.put, List.setIfInBounds_toArray, List.set_cons_zero, List.set_cons_succ])
    refine rtake (i := 1) (v := (.pointer (some ⟨w.heap.size, 66, none⟩))) 17 rfl (by kernel_rfl) (by kernel_rfl) (by kernel_rfl) (by kernel_rfl) (fun _ _ _ h => h) (.inl ⟨by kernel_rfl, fun w' hS => by (go_simp)⟩) hHeld ?_
    (try simp only [Act.put, List.setIfInBounds_toArray, List.set_cons_zero, List.set_cons_succ])
    refine rtake (i := 2) (v := (.int .u32 (m : Int))) 18 rfl (by kernel_rfl) (by kernel_rfl) (by kernel_rfl) (by kernel_rfl) (fun _ _ _ h => h) (.inl ⟨by kernel_rfl, fun w' hS => by (have cs := hS.cs; go_simp)⟩) hHeld ?_
    (try simp only [Act.put, List.setIfInBounds_toArray, List.set_cons_zero, List.set_cons_succ])
    have HB5 := hHeld.row (show w.heap.size ≠ w.heap.size + 1 by omega) (rW { W with sent := m })
    have HR5 := setRow_rw HZD.out { W with sent := m }
    have L6 := lbelowRow L5.out (w.heap.size + 1) (Nat.le_succ _) (rW { W with sent := m })
    have HHD := Lib.hid (show RwB V4 w.heap.size { W with sent := m } from hHeld)
    refine wpAnyH_ready (rs := [3]) (by kernel_rfl) (by simp) (AllReadyH.cons rfl (fun K hK => ?_) AllReadyH.nil)
    clear hHeld
    rw [if_pos (by kernel_rfl)]
    refine wp_store_row 32 (.tmp 4) (.tmp 16) rfl (w.heap.size + 1) (rW { W with sent := m }) rfl rfl 32 zRow HZD.out (by rw [rW_size]; exact rw_size) (by rw [hzs.out, rW_size]) (rW_one _) ?_
    refine hK.out _ _ HB5 (fun hHeld => ?_)
    clear hK K HB5 HHD HZD L5
    generalize V4.setRow (w.heap.size + 1) (rW { W with sent := m }) = V5 at *
    (try simp only [Act.put, List.setIfInBounds_toArray, List.set_cons_zero, List.set_cons_succ])
    refine wpAnyH_ready (rs := [4]) (by kernel_rfl) (by simp) (AllReadyH.cons rfl (fun K hK => ?_) AllReadyH.nil)
    have HH2 := Lib.hid hHeld
    clear hHeld
    rw [if_pos (by kernel_rfl)]
    go_simp
    refine hK.out _ _ HH2.out (fun hHeld => ?_)
    clear hK K HH2
    (try simp only [Act.put, List.setIfInBounds_toArray, List.set_cons_zero, List.set_cons_succ])
    refine wpAnyH_ready (rs := [5]) (by kernel_rfl) (by simp) (AllReadyH.cons rfl (fun K hK => ?_) AllReadyH.nil)
    have HH2 := Lib.hid hHeld
    clear hHeld
    rw [if_pos (by kernel_rfl)]
    go_simp
    refine hK.out _ _ HH2.out (fun hHeld => ?_)
    clear hK K HH2 hHeld
    refine wpAnyH_done (by kernel_rfl) ?_ _
    have HR6 := Lib.hid HR5
    have L7 := Lib.hid L6
    clear HR5 L6
    go_wp2
    (try simp only [Exit.inBlock, Exit.then])
    refine bodyPost_ret (results_rw3 rfl _ _ (w.heap.size + 1) { W with sent := m } rfl HR6.out) rfl ?_
    exact ⟨by rw [HM.out]; rfl, L7.out⟩
end Go.Proofs.Ytlmajpckgjnbdaa
