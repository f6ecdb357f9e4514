/- Printing a packet: the program's. -/
import Derived.Test.YtibngfpjdookkaaWrAll
import Derived.Test.YtibngfpjdookkaaPkParse
import Derived.Test.YtibngfpjdookkaaPrint
set_option linter.unusedVariables false
set_option linter.unusedSimpArgs false
namespace Go.Proofs.Ytibngfpjdookkaa
open Go.RowKit Go.Sort

set_option maxHeartbeats 1000000 in
set_option maxRecDepth 100000 in
theorem wstring (B g : Nat) (l : List UInt8) (w : World) (h : Wr B g w l) (h0 : l ≠ []) :
    Calls Try.prog 37 #[.pointer (some ⟨g, 0, none⟩)] w fun e w' => e = .returned (.string ⟨l.toArray⟩) ∧ Below B w w' := by
  obtain ⟨p, _, hB, v, hbk, hown, hne⟩ := h
  have hl0 : l.length ≠ 0 := by simpa using h0
  rw [cells8_length] at hown
  obtain ⟨r, cap, cur, rfl, hbg, hg, hnc, hcm, hcs, htake⟩ : ∃ r cap cur, v = .slice (some ⟨r, 0, none⟩) l.length cap ∧ B ≤ r ∧ w.heap[r]? = some (.cells cur 5 (0, 0)) ∧ l.length ≤ cap ∧ cap ≤ maxLen ∧ cur.size = cap * 1 ∧ cur.toList.take (l.length * 1) = cells8 l := by
    rcases hown.2 with ⟨_, hz⟩ | ⟨r, cap, cur, hv, q⟩
    · exact absurd hz hl0
    · exact ⟨r, cap, cur, hv, q⟩
  have c1 : w.drew.cell? ⟨g, 1, none⟩ = some (.slice (some ⟨r, 0, none⟩) l.length cap) := by
    have : w.drew.heap[g]? = some (.cells #[p, .slice (some ⟨r, 0, none⟩) l.length cap] 85 (0, 0)) := hbk
    rw [Lib.cell_of_heap this]; rfl
  have hSD : (Builtin.unsafeSliceData_ #[51] 115 #[.slice (some ⟨r, 0, none⟩) l.length cap]).run Try.prog w.drew = .ok (.pointer (some ⟨r, 0, none⟩)) w.drew :=
    Lib.run_unsafeSliceData_row _ _ _ _ _ _ (by omega)
  have hUS : (Builtin.unsafeString_ #[115, 3] 9 #[.pointer (some ⟨r, 0, none⟩), .int .i64 l.length]).run Try.prog w.drew = .ok (.string ⟨l.toArray⟩) (w.drew.freeze ⟨r, 0, none⟩ l.length) := by
    refine Lib.run_unsafeString_row w.drew 115 3 9 5 Try.underlying115 (by kernel_rfl) r cur.size (by have hg' : w.drew.heap[r]? = some (.cells cur 5 (0, 0)) := hg; simp [World.shape?, hg']) l h0 (by omega) (by unfold maxLen at hcm; omega) ?_
    intro j x hx
    have := hown.cells (g := r) rfl j (.int .u8 x.toNat) (by simp [cells8, cell8, hx])
    exact this
  go_enter Try.func37, Try.ntmps37
  go_wp2
  go_region
  all_goals (go_wp2; go_ret; exact ⟨rfl, Lib.below_freeze (Below.drew (Below.refl B w)) (p := ⟨r, 0, none⟩) hbg _⟩)

/-! ### What is recovered -/
set_option maxHeartbeats 1000000 in
theorem wcatch (g0 g1 : Nat) (c : Int) (w : World) (v0 v1 : Value) (h0 : Own w g0 9 #[v0]) (h1 : Own w g1 36 #[v1]) (hne : g1 ≠ g0) :
    CallsD Try.prog 34 #[.pointer (some ⟨g0, 0, none⟩), .pointer (some ⟨g1, 0, none⟩)] (.panicking ({ v := .iface 36 (.int .i64 c), recovered := false } :: [])) w fun e u' w' =>
      e = .returned (.tuple #[]) ∧ u' = .panicking ({ v := .iface 36 (.int .i64 c), recovered := true } :: []) ∧ w' = (w.setCell ⟨g0, 0, none⟩ (.string { data := #[] })).setCell ⟨g1, 0, none⟩ (.int .i64 c) := by
  have hn := fun W => neq_iface W c
  have c0 : w.cell? ⟨g0, 0, none⟩ = some v0 := h0.at_ 0 _ rfl
  have f0 := h0.free 0
  have c1 : (w.setCell ⟨g0, 0, none⟩ (.string { data := #[] })).cell? ⟨g1, 0, none⟩ = some v1 := (h1.set_other g0 0 _ hne).at_ 0 _ rfl
  have f1 := (h1.set_other g0 0 (.string { data := #[] }) hne).free 0
  refine callsD_of_wpS Try.func34 rfl fun c₀ cs hu => ?_
  apply wpS_seq
  apply wpS_region
  simp [wpOpsS, go_sem, recoverD, hu, Try.ntmps34, Exit.thenS]
  refine wpS_of_wp ?_
  rw [show (#[Value.pointer (some ⟨g0, 0, none⟩), Value.pointer (some ⟨g1, 0, none⟩)] ++ ((Array.replicate 6 undef).setIfInBounds 1 (Value.iface 36 (.int .i64 c))).setIfInBounds 0 (Value.iface 36 (.int .i64 c))) = #[Value.pointer (some ⟨g0, 0, none⟩), Value.pointer (some ⟨g1, 0, none⟩), Value.iface 36 (.int .i64 c), Value.iface 36 (.int .i64 c), undef, undef, undef, undef] from rfl]
  go_wp2_with fail
  refine (errno_any c _).mono ?_
  rintro e w1 ⟨rfl, rfl⟩
  go_wp2
  simp [bodyPostS, results, Try.results34]
theorem widle (p0 p1 : Addr) (w : World) :
    CallsD Try.prog 34 #[.pointer (some p0), .pointer (some p1)] .returning w fun e u' w' => e = .returned (.tuple #[]) ∧ u' = .returning ∧ w = w' := by
  have hn := neq_nil
  refine callsD_of_wpS Try.func34 rfl fun c₀ cs hu => ?_
  apply wpS_seq
  apply wpS_region
  simp [wpOpsS, go_sem, recoverD, hu, Try.ntmps34, Exit.thenS]
  refine wpS_of_wp ?_
  go_wp2
  cases c₀
  simp_all [bodyPostS, results, Try.results34]

/-! ### Print -/
def bodyOf (p : Pk) : ByteArray := ⟨(putFs (rowP p) p).toArray⟩
def pcodeP (p : Pk) : Int := if fcode p.kind p.frm p.to 0 ≠ 0 then fcode p.kind p.frm p.to 0 else (errFs (rowP p) p : Nat)
def sOf (p : Pk) : ByteArray := if pcodeP p = 0 then printz p.kind.toNat p.frm.toNat p.to.toNat (bodyOf p) else { data := #[] }
/-- The cells of Print: the packet, the two results. -/
structure Three (w W : World) (p : Pk) (T : ByteArray) (vd vg vx : Vc) (s : ByteArray) (c : Int) : Prop where
  pk : Own W w.heap.size 35 (encP p T vd vg vx).toArray
  st : Own W (w.heap.size + 1) 9 #[.string s]
  er : Own W (w.heap.size + 2) 36 #[.int .i64 c]
  below : Below w.heap.size w W
theorem Three.later {w W W' : World} {p : Pk} {T : ByteArray} {vd vg vx : Vc} {s : ByteArray} {c : Int} (h : Three w W p T vd vg vx s c) {B : Nat} (hb : Below B W W') (hB : w.heap.size + 3 ≤ B) : Three w W' p T vd vg vx s c :=
  ⟨h.pk.below hb (by omega), h.st.below hb (by omega), h.er.below hb (by omega), h.below.trans (hb.mono (by omega))⟩
theorem Three.new (w : World) (p : Pk) (T : ByteArray) (vd vg vx : Vc) : Three w (((w.alloc (.cells (encP p T vd vg vx).toArray 35)).alloc (.cells #[.string { data := #[] }] 9)).alloc (.cells #[.int .i64 0] 36)) p T vd vg vx { data := #[] } 0 := by
  obtain ⟨A1, h1⟩ : ∃ A1, A1 = w.alloc (.cells (encP p T vd vg vx).toArray 35) := ⟨_, rfl⟩
  have o1 : Own A1 w.heap.size 35 (encP p T vd vg vx).toArray := by rw [h1]; exact Own.new _ _ _
  have z1 : A1.heap.size = w.heap.size + 1 := by rw [h1]; simp
  have g1 : Grw w A1 := by rw [h1]; exact (Grw.refl _).alloc _
  rw [← h1]
  obtain ⟨A2, h2⟩ : ∃ A2, A2 = A1.alloc (.cells #[.string { data := #[] }] 9) := ⟨_, rfl⟩
  have o2 : Own A2 (w.heap.size + 1) 9 #[.string { data := #[] }] := by rw [h2, ← z1]; exact Own.new _ _ _
  have z2 : A2.heap.size = w.heap.size + 2 := by rw [h2]; simp [z1]
  have g2 : Grw A1 A2 := by rw [h2]; exact (Grw.refl _).alloc _
  rw [← h2]
  have g3 : Grw A2 (A2.alloc (.cells #[.int .i64 0] 36)) := (Grw.refl _).alloc _
  exact ⟨(o1.below g2.below o1.lt).below g3.below (by omega), o2.below g3.below o2.lt, by rw [← z2]; exact Own.new _ _ _, ((g1.trans g2).trans g3).below⟩
theorem Three.setS {w W : World} {p : Pk} {T : ByteArray} {vd vg vx : Vc} {s : ByteArray} {c : Int} (h : Three w W p T vd vg vx s c) (s' : ByteArray) : Three w (W.setCell ⟨w.heap.size + 1, 0, none⟩ (.string s')) p T vd vg vx s' c :=
  ⟨h.pk.set_other _ _ _ (by omega), h.st.set 0 _, h.er.set_other _ _ _ (by omega), h.below.setCell (by simp) _⟩
theorem Three.setE {w W : World} {p : Pk} {T : ByteArray} {vd vg vx : Vc} {s : ByteArray} {c : Int} (h : Three w W p T vd vg vx s c) (c' : Int) : Three w (W.setCell ⟨w.heap.size + 2, 0, none⟩ (.int .i64 c')) p T vd vg vx s c' :=
  ⟨h.pk.set_other _ _ _ (by omega), h.st.set_other _ _ _ (by omega), h.er.set 0 _, h.below.setCell (by simp) _⟩
theorem Three.lt {w W : World} {p : Pk} {T : ByteArray} {vd vg vx : Vc} {s : ByteArray} {c : Int} (h : Three w W p T vd vg vx s c) : w.heap.size + 3 ≤ W.heap.size := h.er.lt

theorem results_three {fn : Func} {p u : Tmp} (h : fn.results = #[.cell p 9, .cell u 36]) (tmps : Array Value) {W : World} {g0 g1 : Nat} {s : ByteArray} {c : Int}
    (hp : tmps.getD p undef = .pointer (some ⟨g0, 0, none⟩)) (hu : tmps.getD u undef = .pointer (some ⟨g1, 0, none⟩)) (h0 : W.cell? ⟨g0, 0, none⟩ = some (.string s)) (h1 : W.cell? ⟨g1, 0, none⟩ = some (.int .i64 c)) :
    (results fn tmps).run Try.prog W = .ok (.tuple #[.string s, .int .i64 c]) W := by
  have hp' : tmps[p]?.getD undef = .pointer (some ⟨g0, 0, none⟩) := by simpa using hp
  have hu' : tmps[u]?.getD undef = .pointer (some ⟨g1, 0, none⟩) := by simpa using hu
  simp [results, h, hp', hu', asAddr, Result.andThen, loadVar, go_sem, h0, h1]

theorem putFs_ne {p : Pk} (h1 : 1 ≤ p.kind) (h2 : p.kind ≤ 11) : putFs (rowP p) p ≠ [] := by
  intro e
  obtain ⟨fs, hr⟩ : ∃ fs, rowP p = .c :: fs := by
    have e : rowP p = rowF p.kind.toNat := by unfold rowP; rw [if_pos ⟨h1, h2⟩]
    rw [e]
    obtain ⟨n, hn⟩ := Int.eq_ofNat_of_zero_le (show 0 ≤ p.kind by omega)
    rw [hn] at h1 h2 ⊢
    match n, h1, h2 with
    | 1, _, _ | 2, _, _ | 3, _, _ | 4, _, _ | 5, _, _ | 6, _, _ | 7, _, _ | 8, _, _ | 9, _, _ | 10, _, _ | 11, _, _ => exact ⟨_, rfl⟩
    | 0, h1, _ => exact absurd h1 (by decide)
    | n + 12, _, h2 => omega
  have hl := congrArg List.length e
  rw [hr] at hl
  simp only [putFs, putF, List.length_append, putC_length, List.length_nil] at hl
  omega

set_option maxHeartbeats 4000000 in
set_option maxRecDepth 100000 in
theorem pprint_no (w : World) (p : Pk) (T : ByteArray) (vd vg vx : Vc) (hf : fcode p.kind p.frm p.to 0 ≠ 0) :
    Calls Try.prog 14 #[.agg (encP p T vd vg vx).toArray] w fun e w' => e = .returned (.tuple #[.string (sOf p), .int .i64 (pcodeP p)]) ∧ Below w.heap.size w w' := by
  have hmf : ∀ (fn : Fn) (first cap : Array Value) (w : World), (Instr.makeFunc fn first cap).run Try.prog w = .ok (.func fn first cap) w := fun _ _ _ _ => rfl
  have hp := fun W => print_no p.kind p.frm p.to { data := #[] } W (by decide) _ rfl hf
  have e1 : pcodeP p = fcode p.kind p.frm p.to 0 := by unfold pcodeP; rw [if_pos hf]
  have e2 : sOf p = { data := #[] } := by unfold sOf; rw [if_neg (by rw [e1]; exact hf)]
  have hcz : fcode p.kind p.frm p.to (({ data := #[] } : ByteArray).size : Int) = fcode p.kind p.frm p.to 0 := rfl
  rw [hcz] at hp
  have E1 := Lib.hid e1
  have E2 := Lib.hid e2
  generalize fcode p.kind p.frm p.to 0 = c at *
  have T0 := Three.new w p T vd vg vx
  obtain ⟨W0, hW0⟩ : ∃ W0, W0 = (((w.alloc (.cells (encP p T vd vg vx).toArray 35)).alloc (.cells #[.string { data := #[] }] 9)).alloc (.cells #[.int .i64 0] 36)) := ⟨_, rfl⟩
  rw [← hW0] at T0
  have c0 : W0.cell? ⟨w.heap.size, 0, none⟩ = some (.int .i64 p.kind) := T0.pk.at_ 0 _ rfl
  have c1 : W0.cell? ⟨w.heap.size, 1, none⟩ = some (.int .i64 p.frm) := T0.pk.at_ 1 _ rfl
  have c2 : W0.cell? ⟨w.heap.size, 2, none⟩ = some (.int .i64 p.to) := T0.pk.at_ 2 _ rfl
  have hz0 := T0.lt
  simp only [encP] at hW0 ⊢
  go_enter_defers Try.func14, Try.ntmps14
  go_upto_region 2 with fail
  rw [← hW0]
  clear hW0
  go_wp2_with fail
  refine (hp _).mono ?_
  rintro e w1 ⟨rfl, L1⟩
  have T2 := (T0.later ((Grw.refl W0).alloc _).below T0.lt).later L1 (by simp; omega)
  have d1 : w1.cell? ⟨w.heap.size + 1, 0, none⟩ = some (.string { data := #[] }) := T2.st.at_ 0 _ rfl
  have d2 : w1.cell? ⟨w.heap.size + 1 + 1, 0, none⟩ = some (.int .i64 0) := T2.er.at_ 0 _ rfl
  have f1 := T2.st.free 0
  have f2 : w1.frozen? ⟨w.heap.size + 1 + 1, 0, none⟩ = false := T2.er.free 0
  have T3 := (T2.setS { data := #[] }).setE c
  clear T0 T2 L1 c0 c1 c2 hp
  go_wp2_with fail
  refine leaves_cons (f := 34) (args := #[.pointer (some ⟨w.heap.size + 1, 0, none⟩), .pointer (some ⟨w.heap.size + 1 + 1, 0, none⟩)]) (by simp) (by simp [go_sem]) ?_
  refine (widle _ _ _).mono ?_
  rintro e u' w'' ⟨rfl, rfl, rfl⟩
  have g1 : ((w1.setCell ⟨w.heap.size + 1, 0, none⟩ (.string { data := #[] })).setCell ⟨w.heap.size + 1 + 1, 0, none⟩ (.int .i64 c)).cell? ⟨w.heap.size + 1, 0, none⟩ = some (.string { data := #[] }) := T3.st.at_ 0 _ rfl
  have g2 : ((w1.setCell ⟨w.heap.size + 1, 0, none⟩ (.string { data := #[] })).setCell ⟨w.heap.size + 1 + 1, 0, none⟩ (.int .i64 c)).cell? ⟨w.heap.size + 1 + 1, 0, none⟩ = some (.int .i64 c) := T3.er.at_ 0 _ rfl
  exact ⟨_, results_three rfl _ rfl rfl g1 g2, by rw [E1.out, E2.out], T3.below⟩

set_option maxHeartbeats 4000000 in
set_option maxRecDepth 100000 in
theorem pprint_yes (w : World) (p : Pk) (T : ByteArray) (vd vg vx : Vc) (ht : PkAt w p T vd vg vx) (hty : p.typed) (hsm : Small p) (hf : fcode p.kind p.frm p.to 0 = 0) :
    Calls Try.prog 14 #[.agg (encP p T vd vg vx).toArray] w fun e w' => e = .returned (.tuple #[.string (sOf p), .int .i64 (pcodeP p)]) ∧ Below w.heap.size w w' := by
  have hmf : ∀ (fn : Fn) (first cap : Array Value) (w : World), (Instr.makeFunc fn first cap).run Try.prog w = .ok (.func fn first cap) w := fun _ _ _ _ => rfl
  have hm := fcode_may hf
  obtain ⟨kn, hkn⟩ := Int.eq_ofNat_of_zero_le (show 0 ≤ p.kind by omega)
  obtain ⟨fn, hfn⟩ := Int.eq_ofNat_of_zero_le (show 0 ≤ p.frm by omega)
  obtain ⟨tn, htn⟩ := Int.eq_ofNat_of_zero_le (show 0 ≤ p.to by omega)
  have hp1 : ∀ W, Calls Try.prog 35 #[.agg #[.int .i64 p.kind, .int .i64 p.frm, .int .i64 p.to, .string { data := #[] }]] W fun e w' => e = .returned (.tuple #[.string (printz kn fn tn { data := #[] }), .int .i64 0]) ∧ Below W.heap.size W w' := fun W => by
    rw [hkn, hfn, htn] at hf ⊢
    exact print_yes kn fn tn { data := #[] } W (by decide) hf
  have hp2 : ∀ W, errFs (rowP p) p = 0 → Calls Try.prog 35 #[.agg #[.int .i64 p.kind, .int .i64 p.frm, .int .i64 p.to, .string ⟨(putFs (rowP p) p).toArray⟩]] W fun e w' => e = .returned (.tuple #[.string (sOf p), .int .i64 (pcodeP p)]) ∧ Below W.heap.size W w' := fun W he => by
    have hl := body_length ((errFs_iff hty).1 he)
    have hbs : (bodyOf p).size ≤ 30000 := hl
    have hpc : pcodeP p = 0 := by unfold pcodeP; rw [if_neg (by rw [hf]; decide), he]; rfl
    have hso : sOf p = printz kn fn tn (bodyOf p) := by unfold sOf; rw [if_pos hpc, hkn, hfn, htn]; rfl
    have hfb : fcode kn fn tn (bodyOf p).size = 0 := by
      rw [hkn, hfn, htn] at hm
      exact fcode_ok (by omega) (by omega) (by omega)
    rw [hso, hpc, hkn, hfn, htn]
    exact print_yes kn fn tn (bodyOf p) W (by omega) hfb
  have hne := putFs_ne (p := p) (by omega) (by omega)
  have HPC : Hid (errFs (rowP p) p ≠ 0 → pcodeP p = (errFs (rowP p) p : Nat) ∧ sOf p = { data := #[] }) := Lib.hid fun he => by
    have hpc : pcodeP p = (errFs (rowP p) p : Nat) := by unfold pcodeP; rw [if_neg (by rw [hf]; decide)]
    exact ⟨hpc, by unfold sOf; rw [if_neg (by rw [hpc]; omega)]⟩
  have hb := fun B g w0 W h hu ht => wbody B g w0 W h hu p T vd vg vx ht hty hsm (by omega) (by omega)
  generalize printz kn fn tn { data := #[] } = z0 at *
  have HTy := Lib.hid hty
  have HSm := Lib.hid hsm
  have HT := Lib.hid ht
  clear hkn hfn htn hf hm hty hsm ht
  have T0 := Three.new w p T vd vg vx
  obtain ⟨W0, hW0⟩ : ∃ W0, W0 = (((w.alloc (.cells (encP p T vd vg vx).toArray 35)).alloc (.cells #[.string { data := #[] }] 9)).alloc (.cells #[.int .i64 0] 36)) := ⟨_, rfl⟩
  rw [← hW0] at T0
  have c0 : W0.cell? ⟨w.heap.size, 0, none⟩ = some (.int .i64 p.kind) := T0.pk.at_ 0 _ rfl
  have c1 : W0.cell? ⟨w.heap.size, 1, none⟩ = some (.int .i64 p.frm) := T0.pk.at_ 1 _ rfl
  have c2 : W0.cell? ⟨w.heap.size, 2, none⟩ = some (.int .i64 p.to) := T0.pk.at_ 2 _ rfl
  have hz0 := T0.lt
  have HEN := Lib.hid (show (encP p T vd vg vx).toArray = #[.int .i64 p.kind, .int .i64 p.frm, .int .i64 p.to, .int .u64 (p.conf.e : Int), .int .i64 p.conf.r, .int .i64 p.m.f, .int .u32 (p.m.q : Int), .int .u64 (p.m.s : Int), .int .i64 p.m.v, .slice vd.a vd.n vd.c, .string T, .int .u64 (p.stamp : Int), .int .u32 (p.sent : Int), .slice vg.a vg.n vg.c, .int .u64 (p.hor : Int), .int .i64 p.whom, .int .u32 (p.seq : Int), .int .u64 (p.mem : Int), .int .u64 (p.prom.e : Int), .int .i64 p.prom.r, .int .u64 (p.epoch : Int), .slice vx.a vx.n vx.c] from rfl)
  simp only [encP] at hW0 ⊢
  go_enter_defers Try.func14, Try.ntmps14
  go_upto_region 2 with fail
  rw [← hW0]
  clear hW0
  go_wp2_with fail
  refine (hp1 _).mono ?_
  rintro e w1 ⟨rfl, L1⟩
  have T2 := (T0.later ((Grw.refl W0).alloc (.cells #[.int .i64 p.kind, .int .i64 p.frm, .int .i64 p.to, .string { data := #[] }] 56)).below T0.lt).later L1 (by simp; omega)
  have F2 : Blk w1 W0.heap.size p.kind p.frm p.to { data := #[] } := (Blk.new W0 p.kind p.frm p.to { data := #[] }).below L1 (by simp)
  have P2 := T2.pk
  have hzw := F2.lt
  clear T0 L1 c0 c1 c2 hp1
  obtain ⟨w2, hw2⟩ : ∃ w2, w2 = w1.alloc (.cells #[.pointer none, .slice none 0 0] 85) := ⟨_, rfl⟩
  have G2 : Grw w1 w2 := by rw [hw2]; exact (Grw.refl _).alloc _
  have T3 := T2.later G2.below T2.lt
  have F3 : Blk w2 W0.heap.size p.kind p.frm p.to { data := #[] } := F2.below G2.below F2.lt
  have R3 : Wr w1.heap.size w1.heap.size w2 [] := by rw [hw2]; exact Wr.new _ _ (Nat.le_refl _)
  have U3 : Und w1.heap.size w1 w2 := ⟨rfl, G2.below⟩
  have P3 := T3.pk
  have ht1 : PkAt w1 p T vd vg vx := HT.out.below T2.below
  have hbd := hb w1.heap.size w1.heap.size w1 w2 R3 U3 ht1
  clear T2 F2 G2 P2 hb R3 U3 ht1
  go_upto_region 7 with fail
  rw [← hw2]
  clear hw2
  go_wp2_with (refine load_packet rfl (.tmp 1) rfl w.heap.size rfl P3 ?_)
  refine hbd.mono ?_
  rintro e w3 (⟨hc, rfl, H3, K3⟩ | ⟨hc, rfl, K3⟩)
  case inr =>
    obtain ⟨q1, q2⟩ := HPC.out hc
    have T4 := T3.later K3.below (by omega)
    refine leaves_cons (f := 34) (args := #[.pointer (some ⟨w.heap.size + 1, 0, none⟩), .pointer (some ⟨w.heap.size + 1 + 1, 0, none⟩)]) (by simp) (by simp [go_sem]) ?_
    refine (wcatch (w.heap.size + 1) (w.heap.size + 2) ((errFs (rowP p) p : Nat) : Int) w3 _ _ T4.st T4.er (by omega)).mono ?_
    rintro e u' w'' ⟨rfl, rfl, rfl⟩
    have T5 := (T4.setS { data := #[] }).setE ((errFs (rowP p) p : Nat) : Int)
    exact ⟨_, results_three rfl _ rfl rfl (T5.st.at_ 0 _ rfl) (T5.er.at_ 0 _ rfl), by rw [q1, q2], T5.below⟩
  have T4 := T3.later K3.below (by omega)
  have F4 : Blk w3 W0.heap.size p.kind p.frm p.to { data := #[] } := F3.below K3.below hzw
  have hs := wstring w1.heap.size w1.heap.size _ w3 H3 (by rw [List.nil_append]; exact hne)
  rw [List.nil_append] at hs
  have hp3 := fun W => hp2 W hc
  have hz3 := K3.below.size
  clear T3 F3 K3 H3 P3 hbd hc hp2 hne
  generalize ({ data := (putFs (rowP p) p).toArray } : ByteArray) = z at *
  have hz4 := T4.lt
  go_wp2_with fail
  refine hs.mono ?_
  rintro e w4 ⟨rfl, L4⟩
  have T5 := T4.later L4 (by omega)
  have F5 : Blk w4 W0.heap.size p.kind p.frm p.to { data := #[] } := F4.below L4 hzw
  have d3 := F5.box.c3
  have x3 := F5.free 3
  have T6 : Three w (w4.setCell ⟨W0.heap.size, 3, none⟩ (.string z)) p T vd vg vx { data := #[] } 0 :=
    ⟨T5.pk.set_other _ _ _ (by omega), T5.st.set_other _ _ _ (by omega), T5.er.set_other _ _ _ (by omega), T5.below.setCell (by show w.heap.size ≤ W0.heap.size; omega) _⟩
  have F6 : Own (w4.setCell ⟨W0.heap.size, 3, none⟩ (.string z)) W0.heap.size 56 #[.int .i64 p.kind, .int .i64 p.frm, .int .i64 p.to, .string z] := Own.set (cs := #[.int .i64 p.kind, .int .i64 p.frm, .int .i64 p.to, .string { data := #[] }]) F5 3 (.string z)
  have b0 : (w4.setCell ⟨W0.heap.size, 3, none⟩ (.string z)).cell? ⟨W0.heap.size, 0, none⟩ = some (.int .i64 p.kind) := F6.at_ 0 _ rfl
  have b1 : (w4.setCell ⟨W0.heap.size, 3, none⟩ (.string z)).cell? ⟨W0.heap.size, 1, none⟩ = some (.int .i64 p.frm) := F6.at_ 1 _ rfl
  have b2 : (w4.setCell ⟨W0.heap.size, 3, none⟩ (.string z)).cell? ⟨W0.heap.size, 2, none⟩ = some (.int .i64 p.to) := F6.at_ 2 _ rfl
  have b3 : (w4.setCell ⟨W0.heap.size, 3, none⟩ (.string z)).cell? ⟨W0.heap.size, 3, none⟩ = some (.string z) := F6.at_ 3 _ rfl
  clear T4 F4 hs L4 T5 F5 F6
  go_wp2_with fail
  refine (hp3 _).mono ?_
  rintro e w5 ⟨rfl, L5⟩
  have T7 := T6.later L5 (by have := T6.lt; exact this)
  have d1 : w5.cell? ⟨w.heap.size + 1, 0, none⟩ = some (.string { data := #[] }) := T7.st.at_ 0 _ rfl
  have d2 : w5.cell? ⟨w.heap.size + 1 + 1, 0, none⟩ = some (.int .i64 0) := T7.er.at_ 0 _ rfl
  have f1 := T7.st.free 0
  have f2 : w5.frozen? ⟨w.heap.size + 1 + 1, 0, none⟩ = false := T7.er.free 0
  have T8 := (T7.setS (sOf p)).setE (pcodeP p)
  clear T6 T7 L5 b0 b1 b2 b3 hp3 HPC
  generalize hso : sOf p = so at *
  generalize hpd : pcodeP p = pcd at *
  have HSO := Lib.hid hso
  have HPD := Lib.hid hpd
  clear hso hpd
  go_wp2_with fail
  refine leaves_cons (f := 34) (args := #[.pointer (some ⟨w.heap.size + 1, 0, none⟩), .pointer (some ⟨w.heap.size + 1 + 1, 0, none⟩)]) (by simp) (by simp [go_sem]) ?_
  refine (widle _ _ _).mono ?_
  rintro e u' w'' ⟨rfl, rfl, rfl⟩
  exact ⟨_, results_three rfl _ rfl rfl (T8.st.at_ 0 _ rfl) (T8.er.at_ 0 _ rfl), by rw [HSO.out, HPD.out], T8.below⟩
theorem pprint_any (w : World) (p : Pk) (T : ByteArray) (vd vg vx : Vc) (ht : PkAt w p T vd vg vx) (hty : p.typed) (hsm : Small p) :
    Calls Try.prog 14 #[.agg (encP p T vd vg vx).toArray] w fun e w' => e = .returned (.tuple #[.string (sOf p), .int .i64 (pcodeP p)]) ∧ Below w.heap.size w w' := by
  by_cases hf : fcode p.kind p.frm p.to 0 = 0
  · exact pprint_yes w p T vd vg vx ht hty hsm hf
  · exact pprint_no w p T vd vg vx hf
end Go.Proofs.Ytibngfpjdookkaa
