/- New, Done, Last, Take, Trim. -/
import Derived.Test.YtfocjcdfpnbkjaaZSetLists
import Derived.Test.YtfocjcdfpnbkjaaZHzAts
set_option linter.unusedVariables false
set_option maxRecDepth 100000
set_option linter.unusedSimpArgs false
namespace Go.Proofs.Ytfocjcdfpnbkjaa
open Go.RowKit Go.Sort Go.Shelf

theorem build_od (gh gz : Nat) (me : Int) (ms : Nat) (S : Hs) (H : Hz) (w : World) : (Instr.build 61 #[(0, .pointer (some ⟨gh, 0, none⟩)), (1, .pointer (some ⟨gz, 0, none⟩)), (2, .int .i64 me), (3, .int .u64 (ms : Int))]).run Try.prog w = .ok (.agg (oC gh gz ⟨me, ms, S, H, fun _ => 0, ⟨0, 0⟩⟩).toArray) w := by kernel_rfl
theorem step_build4 {ops : Array Oper} {rest : List Oper} {o : Oper} {a : Act} {w : World} {Q : Exit → Act → World → Prop} (hgd : o.guard = none) (ty : TypeId) (x y z u : Operand) (ho : o.op = .build ty #[(0, x), (1, y), (2, z), (3, u)])
    (vx vy vz vu v : Value) (hx : a.eval x = vx) (hy : a.eval y = vy) (hz : a.eval z = vz) (hu : a.eval u = vu) (hb : (Instr.build ty #[(0, vx), (1, vy), (2, vz), (3, vu)]).run Try.prog w = .ok v w)
    (h : wpList Try.prog ops Q rest (a.put o.dst v) w) : wpList Try.prog ops Q (o :: rest) a w :=
  wpList_plain hgd fun _ hK => by
    unfold Oper.wp execOp
    simp only [ho, hx, hy, hz, hu, List.map_toArray, List.map_cons, List.map_nil, Sem.run_bind, Sem.run_pure, Result.andThen_ok, hb]
    exact hK _ _ h
theorem HzAt.base0 {w : World} {g B : Nat} {H : Hz} {s : ZSl} (h : HzAt w g B H s) : HzAt w g 0 H s := ⟨h.own, h.row, Nat.zero_le _, fun _ _ => Nat.zero_le _, h.ok⟩
/-- What New answers. -/
def ONew (w : World) (O : Od) (e : Ending) (w' : World) : Prop := ∃ g, e = .returned (.pointer (some ⟨g, 0, none⟩)) ∧ ORep w' (newB w.heap.size w') g 0 O ∧ Below w.heap.size w w'
set_option maxHeartbeats 4000000 in
theorem onew (me : Int) (s : Nat) (w : World) (hs : s < 18446744073709551616) (m0 : -9223372036854775808 ≤ me) (m1 : me ≤ 9223372036854775807) :
    Calls Try.prog 16 #[.int .i64 me, .int .u64 (s : Int)] w (ONew w (newO me s)) := by
  have HI := InI.oneZ w me m0 m1
  have P1 := with_any s (some ⟨w.heap.size, 0, none⟩) 1 1 [me] _ hs HI (by decide)
  rw [ofl_oneZ] at P1
  have B1 := ((Grw.refl w).alloc (.cells #[.int .i64 me] 3)).below
  have hal := any_lt s (onl me)
  have HOK := Lib.hid (newO_ok me s m0 m1)
  unfold newO at *
  generalize any s (onl me) = t at *
  have P2 := hs_new (w.alloc (.cells #[.int .i64 me] 3))
  have HB1 := Lib.hid B1
  clear HI B1
  go_enter Try.func16, Try.ntmps16
  go_wp2_with fail
  refine P1.mono ?_
  rintro e w' ⟨rfl, rfl⟩
  generalize w.alloc (.cells #[.int .i64 me] 3) = w1 at *
  clear P1
  go_wp2_with fail
  refine P2.mono ?_
  rintro e w2 ⟨rfl, h2, B2⟩
  have P3 := znew me t w2 hal m0 m1
  have H2 := Lib.hid h2
  have HB2 := Lib.hid B2
  clear P2 h2 B2
  go_wp2_with fail
  refine P3.mono ?_
  rintro e w3 ⟨rfl, h3, B3⟩
  generalize hgz : w2.heap.size + 1 = gz at *
  generalize hgh : w1.heap.size = gh at *
  have HBD := Lib.hid (fun W => build_od gh gz me t hs0 (newZ me t) W)
  have hl2 := H2.out.lim gh (by rfl)
  have hlg : gz < w3.heap.size := h3.lt
  have hr := H2.out.below B3
  have HFIN : Hid (ORep (w3.alloc (.cells (oC gh gz ⟨me, t, hs0, newZ me t, fun _ => 0, ⟨0, 0⟩⟩).toArray 61)) (newB w.heap.size (w3.alloc (.cells (oC gh gz ⟨me, t, hs0, newZ me t, fun _ => 0, ⟨0, 0⟩⟩).toArray 61))) w3.heap.size 0 ⟨me, t, hs0, newZ me t, fun _ => 0, ⟨0, 0⟩⟩ ∧ Below w.heap.size w (w3.alloc (.cells (oC gh gz ⟨me, t, hs0, newZ me t, fun _ => 0, ⟨0, 0⟩⟩).toArray 61))) := Lib.hid (by
    have L := ((Grw.refl w3).alloc (.cells (oC gh gz ⟨me, t, hs0, newZ me t, fun _ => 0, ⟨0, 0⟩⟩).toArray 61)).below
    have s1 := HB1.out.size
    have s2 := HB2.out.size
    have s3 := B3.size
    have hz : (w3.alloc (.cells (oC gh gz ⟨me, t, hs0, newZ me t, fun _ => 0, ⟨0, 0⟩⟩).toArray 61)).heap.size = w3.heap.size + 1 := by simp
    refine ⟨⟨gh, gz, fun k => k = gh, zslNil, Own.new w3 _ _, (hr.below L), (h3.base0.below L), Nat.le_refl _, HOK.out, ⟨by omega, by omega⟩, ⟨by omega, by omega⟩, (fun x hx => by cases hx), fun k hk => ?_, fun k hk => hk.2, by omega, fun k hk => ?_⟩, ?_⟩
    · subst hk; exact ⟨by omega, by omega⟩
    · subst hk; exact ⟨by omega, by omega, (fun x hx => by cases hx)⟩
    · exact (HB1.out.trans (HB2.out.mono (by omega))).trans ((B3.mono (by omega)).trans (L.mono (by omega))))
  clear P3 h3 B3 hr hl2 hlg H2 HB1 HB2 HOK
  generalize oC gh gz ⟨me, t, hs0, newZ me t, fun _ => 0, ⟨0, 0⟩⟩ = C at *
  go_wp2_with (with_reducible refine step_build4 rfl 61 (.tmp 10) (.tmp 13) (.tmp 14) (.tmp 15) rfl (.pointer (some ⟨gh, 0, none⟩)) (.pointer (some ⟨gz, 0, none⟩)) (.int .i64 me) (.int .u64 (t : Int)) (.agg C.toArray) rfl rfl rfl rfl (HBD.out _) ?_)
  go_ret
  exact ⟨_, rfl, HFIN.out.1, HFIN.out.2⟩

section
variable {w : World} {E : Nat → Prop} {g N : Nat} {O : Od}
def doneO (O : Od) (p : Int) : Nat := if mem O.ms p then O.dn p.toNat else 0
set_option maxHeartbeats 1000000 in
theorem odone (h : ORep w E g N O) (p : Int) (p0 : -9223372036854775808 ≤ p) (p1 : p ≤ 9223372036854775807) :
    Calls Try.prog 26 #[.pointer (some ⟨g, 0, none⟩), .int .i64 p] w fun e w' => e = .returned (.int .u32 (doneO O p : Nat)) ∧ w = w' := by
  obtain ⟨gh, gz, F, zs, h⟩ := h.ex
  have c3 := h.c3
  have P := has_any O.ms p w h.ok.m p0 p1
  cases hm : mem O.ms p with
  | false =>
    rw [hm] at P
    have HD := Lib.hid (show doneO O p = 0 by unfold doneO; rw [hm]; rfl)
    clear h hm
    rw [HD.out]
    go_enter Try.func26, Try.ntmps26
    go_wp2_with (go_at_call 57; refine P.mono ?_; rintro e w' ⟨rfl, rfl⟩)
    go_ret
    exact ⟨rfl, rfl⟩
  | true =>
    rw [hm] at P
    have HD := Lib.hid (show doneO O p = O.dn p.toNat by unfold doneO; rw [hm]; rfl)
    obtain ⟨k, rfl, hk, -⟩ := mem_nat13 hm
    have t0 := h.t0 k hk
    have hk' : (k : Int) < 64 := by omega
    rw [HD.out]
    simp only [Int.toNat_natCast]
    clear h hm HD
    go_enter Try.func26, Try.ntmps26
    go_wp2_with (go_at_call 57; refine P.mono ?_; rintro e w' ⟨rfl, rfl⟩)
    go_ret
    exact ⟨rfl, rfl⟩
set_option maxHeartbeats 1000000 in
theorem olast (h : ORep w E g N O) :
    Calls Try.prog 19 #[.pointer (some ⟨g, 0, none⟩)] w fun e w' => e = .returned (.agg #[.int .u64 O.last.n, .int .i64 O.last.p]) ∧ Below w.heap.size w w' := by
  obtain ⟨gh, gz, F, zs, h⟩ := h.ex
  have hg := h.own.lt
  have hB := ((Grw.refl w).alloc (.cells #[.int .u64 0, .int .i64 0] 39)).below
  obtain ⟨l0, l1⟩ := cell_last (h.own.below hB hg)
  have HB := Lib.hid ((Grw.refl w).alloc (.cells #[.int .u64 O.last.n, .int .i64 O.last.p] 39)).below
  have hne : g ≠ w.heap.size := by omega
  clear h hB
  go_enter Try.func19, Try.ntmps19
  go_wp2
  exact bodyPost_ret (v := .agg #[.int .u64 O.last.n, .int .i64 O.last.p]) (by simp [results, Try.results19, go_sem]) rfl ⟨rfl, HB.out⟩
theorem came_wait (H : Hz) (p : Int) (q s : Nat) : (cameZ H p q s).wait.length ≤ H.wait.length := by
  cases ho : othZ H p with
  | false => rw [cameZ_no ho]; exact Nat.le_refl _
  | true => rw [cameZ_yes ho]; exact count_wait _ _
set_option maxHeartbeats 4000000 in
theorem otake_no (h : ORep w E g N O) (m : Mg) (hm : m.okS) (hn : mem O.ms m.f = false) :
    Calls Try.prog 33 #[.pointer (some ⟨g, 0, none⟩), valG m] w fun e w' => e = .returned (.int .i64 5) ∧ Below w.heap.size w w' := by
  obtain ⟨gh, gz, F, zs, h⟩ := h.ex
  have P := fun W => has_any O.ms m.f W h.ok.m hm.f0 hm.f1
  rw [hn] at P
  obtain ⟨f, q, s, v, a, dl, dc, deps, text⟩ := m
  have HB := Lib.hid ((Grw.refl w).alloc (.cells #[.int .i64 f, .int .u32 q, .int .u64 s, .int .i64 v, .slice a dl dc, .string text] 47)).below
  have c3 := (h.below HB.out).c3
  unfold valG
  simp only [encG]
  simp only at P
  clear h hm hn
  go_enter Try.func33, Try.ntmps33
  go_upto_region 1 with fail
  go_quiet ((go_at_call 57; exact Calls.quiet_of_same ((P _).mono fun _ _ ⟨he, hw⟩ => ⟨he, hw.symm⟩)))
  go_wp2
  go_ret
  exact ⟨rfl, HB.out.trans (((Grw.refl _).drewN _).below.mono HB.out.size)⟩
set_option maxHeartbeats 8000000 in
theorem otake_bad (h : ORep w E g N O) (hN : N ≤ 999) (m : Mg) (hm : m.okS) (hd : DpIn w m) (hdl : m.dl ≤ 1048576) (hn : mem O.ms m.f = true) (hc : putCode O.S m ≠ 0) :
    Calls Try.prog 33 #[.pointer (some ⟨g, 0, none⟩), valG m] w (OSaid w E g (N + 1) O (.int .i64 (putCode O.S m))) := by
  obtain ⟨gh, gz, F, zs, h⟩ := h.ex
  have P := fun W => has_any O.ms m.f W h.ok.m hm.f0 hm.f1
  rw [hn] at P
  have hPut := putS_bad hc
  obtain ⟨f, q, s, v, a, dl, dc, deps, text⟩ := m
  have HB := Lib.hid ((Grw.refl w).alloc (.cells #[.int .i64 f, .int .u32 q, .int .u64 s, .int .i64 v, .slice a dl dc, .string text] 47)).below
  have c3 := (h.below HB.out).c3
  have HO := Lib.hid h
  have HD := Lib.hid (show DpIn w ⟨f, q, s, v, a, dl, dc, deps, text⟩ from hd)
  have q0 : 0 ≤ q := hm.q0
  have q1 : q < 4294967296 := hm.q1
  have HMB := Lib.hid (MgB.new w ⟨f, q, s, v, a, dl, dc, deps, text⟩)
  have HP := Lib.hid hPut
  have hcn : ((putCode O.S ⟨f, q, s, v, a, dl, dc, deps, text⟩) != 0) = true := by simpa using hc
  have HC := Lib.hid hc
  unfold valG
  simp only [encG]
  simp only at P
  clear h hm hn hd hPut hc
  go_enter Try.func33, Try.ntmps33
  go_upto_region 1 with fail
  go_quiet ((go_at_call 57; exact Calls.quiet_of_same ((P _).mono fun _ _ ⟨he, hw⟩ => ⟨he, hw.symm⟩)))
  clear P
  go_upto_region 3 with fail
  have HB1 := Lib.hid (HB.out.trans (((Grw.refl _).drewN nq).below.mono HB.out.size))
  have HM1 := Lib.hid (HMB.out.later ((Grw.refl _).drewN nq).below)
  clear c3
  generalize (w.alloc (.cells #[.int .i64 f, .int .u32 q, .int .u64 s, .int .i64 v, .slice a dl dc, .string text] 47)).drewN nq = W at *
  generalize hmb : w.heap.size = mb at *
  have HMB2 := Lib.hid hmb
  clear hmb
  have hW := HO.out.below (HMB2.out.symm ▸ HB1.out)
  have c0 := hW.c0
  have d0 := HM1.out.own.at_ 0 _ rfl
  have d1 := HM1.out.own.at_ 1 _ rfl
  have d2 := HM1.out.own.at_ 2 _ rfl
  have d3 := HM1.out.own.at_ 3 _ rfl
  have d4 := HM1.out.own.at_ 4 _ rfl
  have d5 := HM1.out.own.at_ 5 _ rfl
  have HW := Lib.hid hW
  clear hW
  go_still_tail 5, (by kernel_rfl)
  change wpList _ _ _ _ _ (W.drewN 1)
  have HW1 := Lib.hid (HW.out.below ((Grw.refl W).drewN 1).below)
  have PP := hs_put HW1.out.hold hN ⟨f, q, s, v, a, dl, dc, deps, text⟩ q0 q1 ((HD.out.below (HMB2.out.symm ▸ HB1.out)).below ((Grw.refl W).drewN 1).below) hdl
  unfold PutSaid at PP
  rw [HP.out] at PP
  generalize putCode O.S ⟨f, q, s, v, a, dl, dc, deps, text⟩ = code at *
  unfold valG at PP
  simp only [encG] at PP
  have PP := Lib.hid PP
  clear d0 d1 d2 d3 d4 d5 c0
  have HB2 := Lib.hid (show Below mb w (W.drewN 1) from HB1.out.trans (((Grw.refl W).drewN 1).below.mono (HMB2.out ▸ HB1.out.size)))
  generalize W.drewN 1 = V at *
  go_wp2_with fail
  refine PP.out.mono ?_
  rintro e w2 ⟨rfl, h2, h3⟩
  have HF := Lib.hid (And.intro h2 h3)
  clear PP h2 h3
  go_wp2
  go_ret
  have hF := HF.out
  have hO := HW1.out.held hF.1 hF.2 (Nat.le_succ _) HW1.out.ok
  have hmb := HMB2.out
  subst hmb
  exact OSaid.after HB2.out ⟨rfl, ⟨_, _, _, _, hO⟩, hF.2.mono fun k _ hk => HW1.out.ef k hk⟩
set_option maxHeartbeats 8000000 in
theorem otake_ok (h : ORep w E g N O) (hN : N ≤ 999) (m : Mg) (hm : m.okS) (hd : DpIn w m) (hdl : m.dl ≤ 1048576) (hn : mem O.ms m.f = true) (hc : putCode O.S m = 0) :
    Calls Try.prog 33 #[.pointer (some ⟨g, 0, none⟩), valG m] w (OSaid w E g (N + 1) (tookO O m) (.int .i64 0)) := by
  obtain ⟨gh, gz, F, zs, h⟩ := h.ex
  have P := fun W => has_any O.ms m.f W h.ok.m hm.f0 hm.f1
  rw [hn] at P
  have hTK := took_ok h.ok hm hc
  obtain ⟨f, q, s, v, a, dl, dc, deps, text⟩ := m
  have s0 : 0 ≤ s := hm.s0
  have s1 : s < 18446744073709551616 := hm.s1
  have q0' : 0 ≤ q := hm.q0
  obtain ⟨s, rfl⟩ := Int.eq_ofNat_of_zero_le s0
  obtain ⟨q, rfl⟩ := Int.eq_ofNat_of_zero_le q0'
  clear s0 q0'
  have HB := Lib.hid ((Grw.refl w).alloc (.cells #[.int .i64 f, .int .u32 (q : Int), .int .u64 (s : Int), .int .i64 v, .slice a dl dc, .string text] 47)).below
  have c3 := (h.below HB.out).c3
  have HO := Lib.hid h
  have HD := Lib.hid (show DpIn w ⟨f, (q : Int), (s : Int), v, a, dl, dc, deps, text⟩ from hd)
  have q0 : (0 : Int) ≤ (q : Int) := hm.q0
  have q1 : (q : Int) < 4294967296 := hm.q1
  have HMB := Lib.hid (MgB.new w ⟨f, (q : Int), (s : Int), v, a, dl, dc, deps, text⟩)
  have HTK := Lib.hid hTK
  have f0 : -9223372036854775808 ≤ f := hm.f0
  have f1 : f ≤ 9223372036854775807 := hm.f1
  have HC := Lib.hid hc
  unfold valG
  simp only [encG]
  simp only at P
  clear h hm hn hd hTK hc
  go_enter Try.func33, Try.ntmps33
  go_upto_region 1 with fail
  go_quiet ((go_at_call 57; exact Calls.quiet_of_same ((P _).mono fun _ _ ⟨he, hw⟩ => ⟨he, hw.symm⟩)))
  clear P
  go_upto_region 3 with fail
  have HB1 := Lib.hid (HB.out.trans (((Grw.refl _).drewN nq).below.mono HB.out.size))
  have HM1 := Lib.hid (HMB.out.later ((Grw.refl _).drewN nq).below)
  clear c3
  generalize (w.alloc (.cells #[.int .i64 f, .int .u32 (q : Int), .int .u64 (s : Int), .int .i64 v, .slice a dl dc, .string text] 47)).drewN nq = W at *
  generalize hmb : w.heap.size = mb at *
  have HMB2 := Lib.hid hmb
  clear hmb
  have hW := HO.out.below (HMB2.out.symm ▸ HB1.out)
  have c0 := hW.c0
  have d0 := HM1.out.own.at_ 0 _ rfl
  have d1 := HM1.out.own.at_ 1 _ rfl
  have d2 := HM1.out.own.at_ 2 _ rfl
  have d3 := HM1.out.own.at_ 3 _ rfl
  have d4 := HM1.out.own.at_ 4 _ rfl
  have d5 := HM1.out.own.at_ 5 _ rfl
  have HW := Lib.hid hW
  clear hW
  go_still_tail 5, (by kernel_rfl)
  change wpList _ _ _ _ _ (W.drewN 1)
  have HW1 := Lib.hid (HW.out.below ((Grw.refl W).drewN 1).below)
  have PP := hs_put HW1.out.hold hN ⟨f, (q : Int), (s : Int), v, a, dl, dc, deps, text⟩ q0 q1 ((HD.out.below (HMB2.out.symm ▸ HB1.out)).below ((Grw.refl W).drewN 1).below) hdl
  unfold PutSaid at PP
  rw [HC.out] at PP
  unfold valG at PP
  simp only [encG] at PP
  have PP := Lib.hid PP
  clear d0 d1 d2 d3 d4 d5 c0
  have HB2 := Lib.hid (show Below mb w (W.drewN 1) from HB1.out.trans (((Grw.refl W).drewN 1).below.mono (HMB2.out ▸ HB1.out.size)))
  have HMV := Lib.hid (HM1.out.later ((Grw.refl W).drewN 1).below)
  generalize W.drewN 1 = V at *
  go_wp2_with fail
  refine PP.out.mono ?_
  rintro e w2 ⟨rfl, h2, h3⟩
  have hO := HW1.out.held h2 h3 (Nat.le_succ _) (HTK.out.withH HW1.out.ok.hz)
  have hnm : ¬ F mb := fun e => by have := HO.out.lim mb (HO.out.ef mb e); have := HMB2.out; omega
  have hM2 : MgB w2 mb ⟨f, (q : Int), (s : Int), v, a, dl, dc, deps, text⟩ := (h3.block mb HMV.out.lt hnm).trans HMV.out
  have HCH := Lib.hid (show Chg E V w2 from h3.mono fun k _ hk => HW1.out.ef k hk)
  have c1 := hO.c1
  have c2 := hO.c2
  have d0 := hM2.own.at_ 0 _ rfl
  have d1 := hM2.own.at_ 1 _ rfl
  have d2 := hM2.own.at_ 2 _ rfl
  have HO2 := Lib.hid hO
  have hs' : s < 18446744073709551616 := by omega
  have hq' : q < 4294967296 := by omega
  clear PP h2 h3 hM2 hO hnm HM1 HMV
  change Hid (OAt w2 (newF E V w2) g gh gz (N + 1) (newF F V w2) zs { O with S := putS O.S ⟨f, (q : Int), (s : Int), v, a, dl, dc, deps, text⟩ }) at HO2
  by_cases hme : f = O.me
  · have hmb : (f == O.me) = true := by simp [hme]
    have HE : Hid (tookO O ⟨f, (q : Int), (s : Int), v, a, dl, dc, deps, text⟩ = { O with S := putS O.S ⟨f, (q : Int), (s : Int), v, a, dl, dc, deps, text⟩, H := seeZ O.H s }) := Lib.hid (by unfold tookO; rw [if_pos hme]; simp only [Int.toNat_natCast])
    clear hme
    generalize putS O.S ⟨f, (q : Int), (s : Int), v, a, dl, dc, deps, text⟩ = S2 at *
    go_upto_region 6 with fail
    go_quiet (fail)
    go_upto_region 7 with fail
    have HB3 := Lib.hid ((((Grw.refl w2).drewN nq).drewN 1).below)
    obtain ⟨w3, hw3⟩ : ∃ w3, w3 = w2.drewN nq := ⟨_, rfl⟩
    have cc1 : w3.cell? ⟨g, 1, none⟩ = some (.pointer (some ⟨gz, 0, none⟩)) := by rw [hw3]; exact c1
    have cd2 : w3.cell? ⟨mb, 2, none⟩ = some (.int .u64 (s : Int)) := by rw [hw3]; exact d2
    rw [← hw3] at HB3
    rw [← hw3]
    have HW3 := Lib.hid hw3
    clear c1 c2 d0 d1 d2 hw3
    go_still_tail 6, (by kernel_rfl)
    change wpList _ _ _ _ _ (w3.drewN 1)
    have HA := HO2.out.below HB3.out
    have KK := Lib.hid (zsee HA.hz s hs')
    have HA := Lib.hid HA
    clear cc1 cd2
    generalize w3.drewN 1 = w4 at *
    go_wp2_with fail
    refine KK.out.mono ?_
    rintro e w5 ⟨rfl, k1, k2⟩
    have HG := Lib.hid (HA.out.seen (Gone13.mk' k1 k2) (Nat.le_refl _) HA.out.wt)
    clear KK k1 k2
    go_wp2
    go_ret
    obtain ⟨r1, r2⟩ := HG.out
    have hmb2 := HMB2.out
    subst hmb2
    have s3 := HCH.out.size
    have s4 := HB3.out.size
    have s5 := r2.size
    rw [HE.out]
    refine OSaid.after HB2.out ⟨rfl, r1.more (fun k hk => ?_) (fun k hk => ?_), ?_⟩
    · rcases hk with (hk | hk) | hk
      · exact .inl hk
      · exact .inr ⟨hk.1, by omega⟩
      · exact .inr ⟨by omega, hk.2⟩
    · rcases hk with hk | hk
      · have := HW1.out.lim k hk; omega
      · exact hk.2
    · refine (HCH.out.then HB3.out).to r2 fun k hk hE => ?_
      rcases hE with hE | hE
      · exact hE
      · omega
  · have hmb : (f == O.me) = false := by simpa using hme
    have HE : Hid (tookO O ⟨f, (q : Int), (s : Int), v, a, dl, dc, deps, text⟩ = { O with S := putS O.S ⟨f, (q : Int), (s : Int), v, a, dl, dc, deps, text⟩, H := cameZ O.H f q s }) := Lib.hid (by unfold tookO; rw [if_neg hme]; simp only [Int.toNat_natCast])
    clear hme
    generalize putS O.S ⟨f, (q : Int), (s : Int), v, a, dl, dc, deps, text⟩ = S2 at *
    go_upto_region 6 with fail
    go_quiet (fail)
    go_upto_region 8 with fail
    have HB3 := Lib.hid ((((Grw.refl w2).drewN nq).drewN 1).below)
    obtain ⟨w3, hw3⟩ : ∃ w3, w3 = w2.drewN nq := ⟨_, rfl⟩
    have cc1 : w3.cell? ⟨g, 1, none⟩ = some (.pointer (some ⟨gz, 0, none⟩)) := by rw [hw3]; exact c1
    have cd0 : w3.cell? ⟨mb, 0, none⟩ = some (.int .i64 f) := by rw [hw3]; exact d0
    have cd1 : w3.cell? ⟨mb, 1, none⟩ = some (.int .u32 (q : Int)) := by rw [hw3]; exact d1
    have cd2 : w3.cell? ⟨mb, 2, none⟩ = some (.int .u64 (s : Int)) := by rw [hw3]; exact d2
    rw [← hw3] at HB3
    rw [← hw3]
    have HW3 := Lib.hid hw3
    clear c1 c2 d0 d1 d2 hw3
    go_still_tail 10, (by kernel_rfl)
    change wpList _ _ _ _ _ (w3.drewN 1)
    have HA := HO2.out.below HB3.out
    have KK := Lib.hid (zcame HA.hz (Nat.le_trans HA.wt (by omega)) f f0 f1 q s hq' hs')
    have HA := Lib.hid HA
    clear cc1 cd0 cd1 cd2
    generalize w3.drewN 1 = w4 at *
    go_wp2_with fail
    refine KK.out.mono ?_
    rintro e w5 ⟨rfl, k1⟩
    have HG := Lib.hid (HA.out.seen k1 (Nat.le_refl _) (Nat.le_trans (came_wait _ _ _ _) HA.out.wt))
    clear KK k1
    go_wp2
    go_ret
    obtain ⟨r1, r2⟩ := HG.out
    have hmb2 := HMB2.out
    subst hmb2
    have s3 := HCH.out.size
    have s4 := HB3.out.size
    have s5 := r2.size
    rw [HE.out]
    refine OSaid.after HB2.out ⟨rfl, r1.more (fun k hk => ?_) (fun k hk => ?_), ?_⟩
    · rcases hk with (hk | hk) | hk
      · exact .inl hk
      · exact .inr ⟨hk.1, by omega⟩
      · exact .inr ⟨by omega, hk.2⟩
    · rcases hk with hk | hk
      · have := HW1.out.lim k hk; omega
      · exact hk.2
    · refine (HCH.out.then HB3.out).to r2 fun k hk hE => ?_
      rcases hE with hE | hE
      · exact hE
      · omega
theorem otake (h : ORep w E g N O) (hN : N ≤ 999) (m : Mg) (hm : m.okS) (hd : DpIn w m) (hdl : m.dl ≤ 1048576) :
    Calls Try.prog 33 #[.pointer (some ⟨g, 0, none⟩), valG m] w (OSaid w E g (N + 1) (takeO O m) (.int .i64 (takeCode O m))) := by
  cases hn : mem O.ms m.f with
  | false =>
    obtain ⟨e1, e2⟩ := takeO_no hn
    rw [e1, e2]
    exact (otake_no h m hm hn).mono fun e w' ⟨k1, k2⟩ => ⟨k1, ((h.below k2).le (Nat.le_succ _)).up k2.size, Chg.of_below k2⟩
  | true =>
    by_cases hc : putCode O.S m = 0
    · obtain ⟨e1, e2⟩ := takeO_ok hn hc
      rw [e1, e2]
      exact otake_ok h hN m hm hd hdl hn hc
    · obtain ⟨e1, e2⟩ := takeO_bad hn hc
      rw [e1, e2]
      exact otake_bad h hN m hm hd hdl hn hc
end
end Go.Proofs.Ytfocjcdfpnbkjaa
