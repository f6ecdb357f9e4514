/- Put. (Written by wip/gen_hdput.py.) -/
import Derived.Test.YtfocjcdfpnbkjaaZStables
import Derived.Deep.RegionHeld3
set_option linter.unusedVariables false
set_option linter.unusedSimpArgs false
namespace Go.Proofs.Ytfocjcdfpnbkjaa
open Go.RowKit Go.Sort

theorem yields_mg12 {ops : Array Oper} {S : World → Prop} {op : Oper} {a : Act} (hw : Region.wanted op (yielded ops a.tmps) = true) (x : Operand) (ho : op.op = .load 47 x)
    (g : Nat) (hx : a.eval x = .pointer (some ⟨g, 0, none⟩)) {m : Mg} (hS : ∀ w, S w → MgB w g m) : YieldsIf Try.prog ops S op (valG m) a :=
  yieldsIf_load_mid hw 47 x ho g 0 hx (encG m) _ (fun w' hS' j v hj => by rw [Nat.zero_add]; exact Own.at_ (hS w' hS') j v (by rw [List.getElem?_toArray]; exact hj)) Try.underlying47 rfl msg_size
theorem MgB.set_other {w : World} {b : Nat} {m : Mg} (h : MgB w b m) (g j : Nat) (v : Value) (hne : b ≠ g) : MgB (w.setCell ⟨g, j, none⟩ v) b m := Own.set_other h g j v hne
section
variable {w : World} {F : Nat → Prop} {g N : Nat} {lo : Nat → Nat} {sl : Nat → Sl} {X : Nat → List Mg}
set_option maxHeartbeats 1000000 in
theorem hput_range (g : Nat) (m : Mg) (hp : ¬ (0 ≤ m.f ∧ m.f < 64)) (w : World) :
    Calls Try.prog 83 #[.pointer (some ⟨g, 0, none⟩), valG m] w fun e w' => e = .returned (.int .i64 1) ∧ Below w.heap.size w w' := by
  obtain ⟨f, q, s, v, a, dl, dc, deps, text⟩ := m
  have P := hproc_no f hp (w.alloc (.cells #[.int .i64 f, .int .u32 q, .int .u64 s, .int .i64 v, .slice a dl dc, .string text] 47))
  have B := Lib.hid ((Grw.refl w).alloc (.cells #[.int .i64 f, .int .u32 q, .int .u64 s, .int .i64 v, .slice a dl dc, .string text] 47)).below
  clear hp
  unfold valG
  simp only [encG]
  go_enter Try.func83, Try.ntmps83
  go_wp2_with (go_at_call 119; refine P.mono ?_; rintro e w' ⟨rfl, rfl⟩)
  go_ret
  exact ⟨rfl, B.out⟩
set_option maxHeartbeats 2000000 in
theorem hput_order (h : HAt w F g N lo sl X) (hN : N ≤ 1000) (k : Nat) (hk : k < 64) (n : Nat) (hn : n < 4294967296) (hno : n ≠ cntF lo X k + 1) (s v : Int) (a : Option Addr) (dl dc : Nat) (deps : List Int) (text : ByteArray) :
    Calls Try.prog 83 #[.pointer (some ⟨g, 0, none⟩), valG ⟨(k : Int), (n : Int), s, v, a, dl, dc, deps, text⟩] w fun e w' => e = .returned (.int .i64 13) ∧ Below w.heap.size w w' := by
  have B := ((Grw.refl w).alloc (.cells #[.int .i64 (k : Int), .int .u32 (n : Int), .int .u64 s, .int .i64 v, .slice a dl dc, .string text] 47)).below
  have P := hproc_yes k hk (w.alloc (.cells #[.int .i64 (k : Int), .int .u32 (n : Int), .int .u64 s, .int .i64 v, .slice a dl dc, .string text] 47))
  have P2 : ∀ n', Calls Try.prog 120 #[.pointer (some ⟨g, 0, none⟩), .int .i64 (k : Int)] ((w.alloc (.cells #[.int .i64 (k : Int), .int .u32 (n : Int), .int .u64 s, .int .i64 v, .slice a dl dc, .string text] 47)).drewN n') fun e w' => e = .returned (.int .u32 (cntF lo X k : Nat)) ∧ (w.alloc (.cells #[.int .i64 (k : Int), .int .u32 (n : Int), .int .u64 s, .int .i64 v, .slice a dl dc, .string text] 47)).drewN n' = w' := fun n' => hcount_yes (h.below (B.trans (((Grw.refl _).drewN n').below.mono B.size))) hN k hk
  have hc : cntF lo X k ≤ 1000 := by have := h.bnd k hk; unfold cntF; omega
  have LB := Lib.hid B
  generalize cntF lo X k = c at *
  have hno2 : ((n : Int) != (c : Int) + 1) = true := by simp; omega
  clear h B hno
  unfold valG
  simp only [encG]
  go_enter Try.func83, Try.ntmps83
  go_upto_region 3 with (go_at_call 119; refine P.mono ?_; rintro e w' ⟨rfl, rfl⟩)
  go_quiet ((go_at_call 120; exact Calls.quiet_of_same ((P2 _).mono fun _ _ ⟨he, hw⟩ => ⟨he, hw.symm⟩)))
  go_wp2
  go_ret
  exact ⟨rfl, LB.out.trans (((Grw.refl _).drewN _).below.mono LB.out.size)⟩
/-- What Put answers of a message that is held now. -/
def PutOk (w : World) (F : Nat → Prop) (g N : Nat) (lo : Nat → Nat) (sl : Nat → Sl) (X : Nat → List Mg) (k : Nat) (m : Mg) (e : Ending) (w' : World) : Prop :=
  e = .returned (.int .i64 0) ∧ ∃ s' x, HAt w' (newF F w w') g (N + 1) lo (updF sl k s') (updF X k (X k ++ [x])) ∧ Chg F w w' ∧ strip x = strip m
set_option maxHeartbeats 8000000 in
set_option maxRecDepth 100000 in
theorem hput_ok (h : HAt w F g N lo sl X) (hN : N ≤ 999) (k : Nat) (hk : k < 64) (n : Nat) (hno : n = cntF lo X k + 1) (s v : Int) (a : Option Addr) (dl dc : Nat) (deps : List Int) (text : ByteArray) (hd : DpIn w ⟨(k : Int), (n : Int), s, v, a, dl, dc, deps, text⟩) (hdl : dl ≤ 1048576) :
    Calls Try.prog 83 #[.pointer (some ⟨g, 0, none⟩), valG ⟨(k : Int), (n : Int), s, v, a, dl, dc, deps, text⟩] w (PutOk w F g N lo sl X k ⟨(k : Int), (n : Int), s, v, a, dl, dc, deps, text⟩) := by
  have B := ((Grw.refl w).alloc (.cells #[.int .i64 (k : Int), .int .u32 (n : Int), .int .u64 s, .int .i64 v, .slice a dl dc, .string text] 47)).below
  have P := hproc_yes k hk (w.alloc (.cells #[.int .i64 (k : Int), .int .u32 (n : Int), .int .u64 s, .int .i64 v, .slice a dl dc, .string text] 47))
  have P2 : ∀ n', Calls Try.prog 120 #[.pointer (some ⟨g, 0, none⟩), .int .i64 (k : Int)] ((w.alloc (.cells #[.int .i64 (k : Int), .int .u32 (n : Int), .int .u64 s, .int .i64 v, .slice a dl dc, .string text] 47)).drewN n') fun e w' => e = .returned (.int .u32 (cntF lo X k : Nat)) ∧ (w.alloc (.cells #[.int .i64 (k : Int), .int .u32 (n : Int), .int .u64 s, .int .i64 v, .slice a dl dc, .string text] 47)).drewN n' = w' := fun n' => hcount_yes (h.below (B.trans (((Grw.refl _).drewN n').below.mono B.size))) (by omega) k hk
  have hc : cntF lo X k ≤ 1000 := by have := h.bnd k hk; unfold cntF; omega
  have hsn0 : (sl k).n ≤ 1000 := by have := h.bnd k hk; have := h.len k hk; omega
  have LB := Lib.hid B
  have HMB := Lib.hid (MgB.new w ⟨(k : Int), (n : Int), s, v, a, dl, dc, deps, text⟩)
  generalize cntF lo X k = c at *
  have hno2 : ((n : Int) != (c : Int) + 1) = false := by simp; omega
  have hn9 : n ≤ 1001 := by omega
  have hkz : (k : Int) < 64 := by omega
  have HD := Lib.hid hd
  have HH := Lib.hid h
  have hHF := h.inF
  have hgF := h.fg
  have hmbF : ¬ F w.heap.size := fun e => by have := h.lim _ e; omega
  have HHF := Lib.hid hHF
  have HGF := Lib.hid hgF
  clear h B hno hd hHF hgF
  unfold valG
  simp only [encG]
  go_enter Try.func83, Try.ntmps83
  go_upto_region 3 with (go_at_call 119; refine P.mono ?_; rintro e w' ⟨rfl, rfl⟩)
  go_quiet ((go_at_call 120; exact Calls.quiet_of_same ((P2 _).mono fun _ _ ⟨he, hw⟩ => ⟨he, hw.symm⟩)))
  clear P P2
  go_upto_region 5 with fail
  have HB0 := Lib.hid ((LB.out.trans (((Grw.refl _).drewN nq).below.mono LB.out.size)).trans ((Grw.refl _).drew.below.mono (LB.out.trans (((Grw.refl _).drewN nq).below.mono LB.out.size)).size))
  have HM0 := Lib.hid ((HMB.out.later ((Grw.refl _).drewN nq).below).later (Grw.refl _).drew.below)
  clear LB HMB hno2
  generalize w.alloc (.cells #[.int .i64 (k : Int), .int .u32 (n : Int), .int .u64 s, .int .i64 v, .slice a dl dc, .string text] 47) = W at *
  generalize W.drewN nq = V at *
  obtain ⟨mb, hmb⟩ : ∃ mb, mb = w.heap.size := ⟨_, rfl⟩
  rw [← hmb] at HM0 hmbF
  try rw [← hmb]
  have HMBE := Lib.hid hmb
  clear hmb
  refine wp_region_held_drew (S := fun w' => MgB w' mb ⟨(k : Int), (n : Int), s, v, a, dl, dc, deps, text⟩) (by kernel_rfl) HM0.out (fun hHeld => ?_)
  generalize V.drew = W0 at *
  have HA0 := Lib.hid (HH.out.below HB0.out)
  obtain ⟨sa, sn, sc, hsl⟩ : ∃ sa sn sc, sl k = ⟨sa, sn, sc⟩ := ⟨_, _, _, rfl⟩
  rw [hsl] at hsn0
  simp only at hsn0
  have hHF := HHF.out
  have hgF := HGF.out
  have HSL := Lib.hid hsl
  clear hHF hgF hsl
  refine stake (i := 0) (v := (.pointer (some ⟨g, 0, none⟩))) 21 rfl (by kernel_rfl) (by kernel_rfl) (by kernel_rfl) (by kernel_rfl) (fun _ _ _ h => h) (.inl ⟨by kernel_rfl, fun w' hS => by (go_simp)⟩) hHeld ?_
  (try simp only [Act.put, List.setIfInBounds_toArray, List.set_cons_zero, List.set_cons_succ])
  refine stake (i := 1) (v := (.pointer (some ⟨mb, 0, none⟩))) 22 rfl (by kernel_rfl) (by kernel_rfl) (by kernel_rfl) (by kernel_rfl) (fun _ _ _ h => h) (.inl ⟨by kernel_rfl, fun w' hS => by (go_simp)⟩) hHeld ?_
  (try simp only [Act.put, List.setIfInBounds_toArray, List.set_cons_zero, List.set_cons_succ])
  refine stake (i := 2) (v := (.int .i64 (k : Int))) 23 rfl (by kernel_rfl) (by kernel_rfl) (by kernel_rfl) (by kernel_rfl) (fun _ _ _ h => h) (.inl ⟨by kernel_rfl, fun w' hS => by (have hc := MgB.own hS |>.at_ 0 _ rfl; go_simp)⟩) hHeld ?_
  (try simp only [Act.put, List.setIfInBounds_toArray, List.set_cons_zero, List.set_cons_succ])
  refine stake (i := 3) (v := (.pointer (some ⟨g, 0, none⟩))) 24 rfl (by kernel_rfl) (by kernel_rfl) (by kernel_rfl) (by kernel_rfl) (fun _ _ _ h => h) (.inl ⟨by kernel_rfl, fun w' hS => by (go_simp)⟩) hHeld ?_
  (try simp only [Act.put, List.setIfInBounds_toArray, List.set_cons_zero, List.set_cons_succ])
  refine stake (i := 4) (v := (.pointer (some ⟨mb, 0, none⟩))) 25 rfl (by kernel_rfl) (by kernel_rfl) (by kernel_rfl) (by kernel_rfl) (fun _ _ _ h => h) (.inl ⟨by kernel_rfl, fun w' hS => by (go_simp)⟩) hHeld ?_
  (try simp only [Act.put, List.setIfInBounds_toArray, List.set_cons_zero, List.set_cons_succ])
  refine stake (i := 5) (v := (.int .i64 (k : Int))) 26 rfl (by kernel_rfl) (by kernel_rfl) (by kernel_rfl) (by kernel_rfl) (fun _ _ _ h => h) (.inl ⟨by kernel_rfl, fun w' hS => by (have hc := MgB.own hS |>.at_ 0 _ rfl; go_simp)⟩) hHeld ?_
  (try simp only [Act.put, List.setIfInBounds_toArray, List.set_cons_zero, List.set_cons_succ])
  refine stake (i := 6) (v := (.pointer (some ⟨g, 0, none⟩))) 27 rfl (by kernel_rfl) (by kernel_rfl) (by kernel_rfl) (by kernel_rfl) (fun _ _ _ h => h) (.inl ⟨by kernel_rfl, fun w' hS => by (go_simp)⟩) hHeld ?_
  (try simp only [Act.put, List.setIfInBounds_toArray, List.set_cons_zero, List.set_cons_succ])
  refine stake (i := 7) (v := (.pointer (some ⟨g, 64, none⟩))) 28 rfl (by kernel_rfl) (by kernel_rfl) (by kernel_rfl) (by kernel_rfl) (fun _ _ _ h => h) (.inl ⟨by kernel_rfl, fun w' hS => by (go_simp)⟩) hHeld ?_
  (try simp only [Act.put, List.setIfInBounds_toArray, List.set_cons_zero, List.set_cons_succ])
  refine stake (i := 8) (v := (.pointer (some ⟨g, 64 + k, none⟩))) 29 rfl (by kernel_rfl) (by kernel_rfl) (by kernel_rfl) (by kernel_rfl) (fun _ _ _ h => h) (.inl ⟨by kernel_rfl, fun w' hS => by (go_simp)⟩) hHeld ?_
  (try simp only [Act.put, List.setIfInBounds_toArray, List.set_cons_zero, List.set_cons_succ])
  refine stake (i := 10) (v := (.agg #[.int .i64 (k : Int), .int .u32 (n : Int), .int .u64 s, .int .i64 v, .slice a dl dc, .string text])) 31 rfl (by kernel_rfl) (by kernel_rfl) (by kernel_rfl) (by kernel_rfl) (fun _ _ _ h => h) (yields_mg12 (m := ⟨(k : Int), (n : Int), s, v, a, dl, dc, deps, text⟩) (by kernel_rfl) (.tmp 3) rfl mb (by kernel_rfl) (fun _ hS => hS)) hHeld ?_
  (try simp only [Act.put, List.setIfInBounds_toArray, List.set_cons_zero, List.set_cons_succ])
  refine stake (i := 14) (v := (.pointer (some ⟨g, 0, none⟩))) 35 rfl (by kernel_rfl) (by kernel_rfl) (by kernel_rfl) (by kernel_rfl) (fun _ _ _ h => h) (.inl ⟨by kernel_rfl, fun w' hS => by (go_simp)⟩) hHeld ?_
  (try simp only [Act.put, List.setIfInBounds_toArray, List.set_cons_zero, List.set_cons_succ])
  refine stake (i := 15) (v := (.pointer (some ⟨g, 64, none⟩))) 36 rfl (by kernel_rfl) (by kernel_rfl) (by kernel_rfl) (by kernel_rfl) (fun _ _ _ h => h) (.inl ⟨by kernel_rfl, fun w' hS => by (go_simp)⟩) hHeld ?_
  (try simp only [Act.put, List.setIfInBounds_toArray, List.set_cons_zero, List.set_cons_succ])
  refine wpAnyH_ready (rs := [9, 11]) (by kernel_rfl) (by simp) (AllReadyH.cons rfl (fun K hK => ?_) (AllReadyH.cons rfl (fun K hK => ?_) AllReadyH.nil))
  · have hsl := HSL.out
    have hHF := HHF.out
    have hgF := HGF.out
    have cS := HA0.out.cs k hk
    rw [hsl] at cS
    clear hHeld
    rw [if_pos (by kernel_rfl)]
    go_simp
    refine hK.out _ _ HM0.out (fun hHeld => ?_)
    clear hK K cS
    (try simp only [Act.put, List.setIfInBounds_toArray, List.set_cons_zero, List.set_cons_succ])
    refine wpAnyH_ready (rs := [11]) (by kernel_rfl) (by simp) (AllReadyH.cons rfl (fun K hK => ?_) AllReadyH.nil)
    clear hHeld
    rw [if_pos (by kernel_rfl)]
    go_simp
    have HA1 := Lib.hid (HA0.out.below ((Grw.refl W0).alloc (.cells #[.int .i64 (k : Int), .int .u32 (n : Int), .int .u64 s, .int .i64 v, .slice a dl dc, .string text] 47)).below)
    have HM1 := Lib.hid (HM0.out.later ((Grw.refl W0).alloc (.cells #[.int .i64 (k : Int), .int .u32 (n : Int), .int .u64 s, .int .i64 v, .slice a dl dc, .string text] 47)).below)
    have HB1 := Lib.hid (HB0.out.trans (((Grw.refl W0).alloc (.cells #[.int .i64 (k : Int), .int .u32 (n : Int), .int .u64 s, .int .i64 v, .slice a dl dc, .string text] 47)).below.mono HB0.out.size))
    have HR := Lib.hid (lst_one (MgB.new W0 ⟨(k : Int), (n : Int), s, v, a, dl, dc, deps, text⟩))
    refine hK.out _ _ HM1.out (fun hHeld => ?_)
    clear hK K HA0 HM0 HB0
    (try simp only [Act.put, List.setIfInBounds_toArray, List.set_cons_zero, List.set_cons_succ])
    generalize W0.heap.size = bs at *
    generalize W0.alloc (.cells #[.int .i64 (k : Int), .int .u32 (n : Int), .int .u64 s, .int .i64 v, .slice a dl dc, .string text] 47) = W1 at *
    refine wpAnyH_ready (rs := [12]) (by kernel_rfl) (by simp) (AllReadyH.cons rfl (fun K hK => ?_) AllReadyH.nil)
    have HOW := hown_any ⟨some ⟨bs, 0, none⟩, 1, 1⟩ [⟨(k : Int), (n : Int), s, v, a, dl, dc, deps, text⟩] W1 HR.out (fun h => by cases h) (fun x hx => by rw [List.mem_singleton.1 hx]; exact ⟨HD.out.below HB1.out, hdl⟩) (by show 1 ≤ 100000; decide)
    clear hHeld
    rw [if_pos (by kernel_rfl)]
    go_simp
    refine HOW.mono ?_
    rintro e W2 ⟨⟨ya, yn, yc⟩, Y, rfl, hO, hY, hB, hne⟩
    have HA2 := Lib.hid (HA1.out.below hB)
    have HM2 := Lib.hid (HM1.out.later hB)
    have HB2 := Lib.hid (HB1.out.trans (hB.mono HB1.out.size))
    obtain ⟨x, hYx, hxs⟩ : ∃ x, Y = [x] ∧ strip x = strip ⟨(k : Int), (n : Int), s, v, a, dl, dc, deps, text⟩ := by
      have hl : Y.length = 1 := by have := congrArg List.length hY; simpa using this
      match Y, hl, hY with
      | [x], _, hY => exact ⟨x, rfl, by simpa using hY⟩
    subst hYx
    have hyn : yn = 1 := by have := hO.slot.len; simpa using this.symm
    subst hyn
    have hDx : DpT W2 (fun j => w.heap.size ≤ j) x := (hO.deps x (List.mem_singleton_self x)).more fun j _ hj => by have := HB1.out.size; omega
    obtain ⟨yad, rfl⟩ : ∃ ad, ya = some ad := by
      cases ya with
      | none => exact absurd rfl (hne (by simp))
      | some ad => exact ⟨ad, rfl⟩
    have HL := Lib.hid hO.slot.lst
    have HX := Lib.hid (And.intro hDx hxs)
    refine hK.out _ _ HM2.out (fun hHeld => ?_)
    clear hK K HA1 HM1 HB1 HOW hO hY hB hne hDx hxs HR
    (try simp only [Act.put, List.setIfInBounds_toArray, List.set_cons_zero, List.set_cons_succ])
    refine wpAnyH_ready (rs := [13]) (by kernel_rfl) (by simp) (AllReadyH.cons rfl (fun K hK => ?_) AllReadyH.nil)
    have hSl := HA2.out.slot k hk
    rw [hsl] at hSl
    clear hHeld
    rw [if_pos (by kernel_rfl)]
    refine wp_append_h (.tmp 30) (.tmp 33) rfl ⟨sa, sn, sc⟩ (X k) rfl hSl yad 1 yc [x] rfl HL.out (by decide) (by show sn + 1 ≤ 200000; omega) (fun s' W' hs' hn' hg' hloc => ?_)
    clear hn'
    have HM' : MgB W' mb ⟨(k : Int), (n : Int), s, v, a, dl, dc, deps, text⟩ := (hg'.block mb HM2.out.lt (fun e => by
      obtain ⟨z, hz, e2⟩ := Sl.block e.symm
      exact hmbF (e2 ▸ hHF k hk z (by rw [hsl]; exact hz)))).trans HM2.out
    obtain ⟨HF, HC⟩ := HH.out.put HB2.out hk HX.out.1 hs' (by rw [hsl]; exact hg') (by rw [hsl]; exact hloc)
    have HFIN := Lib.hid (And.intro HF HC)
    have c9 : W'.cell? ⟨g, 64 + k, none⟩ = some (.slice sa sn sc) := by
      have := HA2.out.cs k hk
      rw [hsl] at this
      exact (World.cell?_of_block (a := ⟨g, 64 + k, none⟩) (hg'.block g HA2.out.lt (fun e => by
        obtain ⟨z, hz, e2⟩ := Sl.block e.symm
        exact HA2.out.slot_ne k hk z (by rw [hsl]; exact hz) e2))).trans this
    have f9 : W'.frozen? ⟨g, 64 + k, none⟩ = false := (World.frozen?_of_block (a := ⟨g, 64 + k, none⟩) (hg'.block g HA2.out.lt (fun e => by
        obtain ⟨z, hz, e2⟩ := Sl.block e.symm
        exact HA2.out.slot_ne k hk z (by rw [hsl]; exact hz) e2))).trans (HA2.out.free _)
    have HMs : MgB (W'.setCell ⟨g, 64 + k, none⟩ s'.v) mb ⟨(k : Int), (n : Int), s, v, a, dl, dc, deps, text⟩ := HM'.set_other g _ _ (fun e => hmbF (e ▸ hgF))
    refine hK.out _ _ HM' (fun hHeld => ?_)
    clear hK K HF HC hs' hg' hloc hSl HA2 HM2 HB2 HM'
    (try simp only [Act.put, List.setIfInBounds_toArray, List.set_cons_zero, List.set_cons_succ])
    refine stake (i := 16) (v := (.pointer (some ⟨g, 64 + k, none⟩))) 37 rfl (by kernel_rfl) (by kernel_rfl) (by kernel_rfl) (by kernel_rfl) (fun _ _ _ h => h) (.inl ⟨by kernel_rfl, fun w' hS => by (go_simp)⟩) hHeld ?_
    (try simp only [Act.put, List.setIfInBounds_toArray, List.set_cons_zero, List.set_cons_succ])
    obtain ⟨pa, pn, pc⟩ := s'
    unfold Sl.v at HFIN HMs
    simp only at HFIN HMs
    (try unfold Sl.v)
    refine wpAnyH_ready (rs := [17]) (by kernel_rfl) (by simp) (AllReadyH.cons rfl (fun K hK => ?_) AllReadyH.nil)
    clear hHeld
    rw [if_pos (by kernel_rfl)]
    go_simp
    refine hK.out _ _ HMs (fun hHeld => ?_)
    clear hK K hHeld HMs c9 f9
    refine wpAnyH_done (by kernel_rfl) ?_ _
    go_wp2
    go_ret
    exact ⟨rfl, _, x, HFIN.out.1, HFIN.out.2, HX.out.2⟩
  · have hsl := HSL.out
    have hHF := HHF.out
    have hgF := HGF.out
    clear hHeld
    rw [if_pos (by kernel_rfl)]
    go_simp
    have HA1 := Lib.hid (HA0.out.below ((Grw.refl W0).alloc (.cells #[.int .i64 (k : Int), .int .u32 (n : Int), .int .u64 s, .int .i64 v, .slice a dl dc, .string text] 47)).below)
    have HM1 := Lib.hid (HM0.out.later ((Grw.refl W0).alloc (.cells #[.int .i64 (k : Int), .int .u32 (n : Int), .int .u64 s, .int .i64 v, .slice a dl dc, .string text] 47)).below)
    have HB1 := Lib.hid (HB0.out.trans (((Grw.refl W0).alloc (.cells #[.int .i64 (k : Int), .int .u32 (n : Int), .int .u64 s, .int .i64 v, .slice a dl dc, .string text] 47)).below.mono HB0.out.size))
    have HR := Lib.hid (lst_one (MgB.new W0 ⟨(k : Int), (n : Int), s, v, a, dl, dc, deps, text⟩))
    refine hK.out _ _ HM1.out (fun hHeld => ?_)
    clear hK K HA0 HM0 HB0
    (try simp only [Act.put, List.setIfInBounds_toArray, List.set_cons_zero, List.set_cons_succ])
    generalize W0.heap.size = bs at *
    generalize W0.alloc (.cells #[.int .i64 (k : Int), .int .u32 (n : Int), .int .u64 s, .int .i64 v, .slice a dl dc, .string text] 47) = W1 at *
    refine wpAnyH_ready (rs := [9, 12]) (by kernel_rfl) (by simp) (AllReadyH.cons rfl (fun K hK => ?_) (AllReadyH.cons rfl (fun K hK => ?_) AllReadyH.nil))
    · have hsl := HSL.out
      have hHF := HHF.out
      have hgF := HGF.out
      have cS := HA1.out.cs k hk
      rw [hsl] at cS
      clear hHeld
      rw [if_pos (by kernel_rfl)]
      go_simp
      refine hK.out _ _ HM1.out (fun hHeld => ?_)
      clear hK K cS
      (try simp only [Act.put, List.setIfInBounds_toArray, List.set_cons_zero, List.set_cons_succ])
      refine wpAnyH_ready (rs := [12]) (by kernel_rfl) (by simp) (AllReadyH.cons rfl (fun K hK => ?_) AllReadyH.nil)
      have HOW := hown_any ⟨some ⟨bs, 0, none⟩, 1, 1⟩ [⟨(k : Int), (n : Int), s, v, a, dl, dc, deps, text⟩] W1 HR.out (fun h => by cases h) (fun x hx => by rw [List.mem_singleton.1 hx]; exact ⟨HD.out.below HB1.out, hdl⟩) (by show 1 ≤ 100000; decide)
      clear hHeld
      rw [if_pos (by kernel_rfl)]
      go_simp
      refine HOW.mono ?_
      rintro e W2 ⟨⟨ya, yn, yc⟩, Y, rfl, hO, hY, hB, hne⟩
      have HA2 := Lib.hid (HA1.out.below hB)
      have HM2 := Lib.hid (HM1.out.later hB)
      have HB2 := Lib.hid (HB1.out.trans (hB.mono HB1.out.size))
      obtain ⟨x, hYx, hxs⟩ : ∃ x, Y = [x] ∧ strip x = strip ⟨(k : Int), (n : Int), s, v, a, dl, dc, deps, text⟩ := by
        have hl : Y.length = 1 := by have := congrArg List.length hY; simpa using this
        match Y, hl, hY with
        | [x], _, hY => exact ⟨x, rfl, by simpa using hY⟩
      subst hYx
      have hyn : yn = 1 := by have := hO.slot.len; simpa using this.symm
      subst hyn
      have hDx : DpT W2 (fun j => w.heap.size ≤ j) x := (hO.deps x (List.mem_singleton_self x)).more fun j _ hj => by have := HB1.out.size; omega
      obtain ⟨yad, rfl⟩ : ∃ ad, ya = some ad := by
        cases ya with
        | none => exact absurd rfl (hne (by simp))
        | some ad => exact ⟨ad, rfl⟩
      have HL := Lib.hid hO.slot.lst
      have HX := Lib.hid (And.intro hDx hxs)
      refine hK.out _ _ HM2.out (fun hHeld => ?_)
      clear hK K HA1 HM1 HB1 HOW hO hY hB hne hDx hxs HR
      (try simp only [Act.put, List.setIfInBounds_toArray, List.set_cons_zero, List.set_cons_succ])
      refine wpAnyH_ready (rs := [13]) (by kernel_rfl) (by simp) (AllReadyH.cons rfl (fun K hK => ?_) AllReadyH.nil)
      have hSl := HA2.out.slot k hk
      rw [hsl] at hSl
      clear hHeld
      rw [if_pos (by kernel_rfl)]
      refine wp_append_h (.tmp 30) (.tmp 33) rfl ⟨sa, sn, sc⟩ (X k) rfl hSl yad 1 yc [x] rfl HL.out (by decide) (by show sn + 1 ≤ 200000; omega) (fun s' W' hs' hn' hg' hloc => ?_)
      clear hn'
      have HM' : MgB W' mb ⟨(k : Int), (n : Int), s, v, a, dl, dc, deps, text⟩ := (hg'.block mb HM2.out.lt (fun e => by
        obtain ⟨z, hz, e2⟩ := Sl.block e.symm
        exact hmbF (e2 ▸ hHF k hk z (by rw [hsl]; exact hz)))).trans HM2.out
      obtain ⟨HF, HC⟩ := HH.out.put HB2.out hk HX.out.1 hs' (by rw [hsl]; exact hg') (by rw [hsl]; exact hloc)
      have HFIN := Lib.hid (And.intro HF HC)
      have c9 : W'.cell? ⟨g, 64 + k, none⟩ = some (.slice sa sn sc) := by
        have := HA2.out.cs k hk
        rw [hsl] at this
        exact (World.cell?_of_block (a := ⟨g, 64 + k, none⟩) (hg'.block g HA2.out.lt (fun e => by
          obtain ⟨z, hz, e2⟩ := Sl.block e.symm
          exact HA2.out.slot_ne k hk z (by rw [hsl]; exact hz) e2))).trans this
      have f9 : W'.frozen? ⟨g, 64 + k, none⟩ = false := (World.frozen?_of_block (a := ⟨g, 64 + k, none⟩) (hg'.block g HA2.out.lt (fun e => by
          obtain ⟨z, hz, e2⟩ := Sl.block e.symm
          exact HA2.out.slot_ne k hk z (by rw [hsl]; exact hz) e2))).trans (HA2.out.free _)
      have HMs : MgB (W'.setCell ⟨g, 64 + k, none⟩ s'.v) mb ⟨(k : Int), (n : Int), s, v, a, dl, dc, deps, text⟩ := HM'.set_other g _ _ (fun e => hmbF (e ▸ hgF))
      refine hK.out _ _ HM' (fun hHeld => ?_)
      clear hK K HF HC hs' hg' hloc hSl HA2 HM2 HB2 HM'
      (try simp only [Act.put, List.setIfInBounds_toArray, List.set_cons_zero, List.set_cons_succ])
      refine stake (i := 16) (v := (.pointer (some ⟨g, 64 + k, none⟩))) 37 rfl (by kernel_rfl) (by kernel_rfl) (by kernel_rfl) (by kernel_rfl) (fun _ _ _ h => h) (.inl ⟨by kernel_rfl, fun w' hS => by (go_simp)⟩) hHeld ?_
      (try simp only [Act.put, List.setIfInBounds_toArray, List.set_cons_zero, List.set_cons_succ])
      obtain ⟨pa, pn, pc⟩ := s'
      unfold Sl.v at HFIN HMs
      simp only at HFIN HMs
      (try unfold Sl.v)
      refine wpAnyH_ready (rs := [17]) (by kernel_rfl) (by simp) (AllReadyH.cons rfl (fun K hK => ?_) AllReadyH.nil)
      clear hHeld
      rw [if_pos (by kernel_rfl)]
      go_simp
      refine hK.out _ _ HMs (fun hHeld => ?_)
      clear hK K hHeld HMs c9 f9
      refine wpAnyH_done (by kernel_rfl) ?_ _
      go_wp2
      go_ret
      exact ⟨rfl, _, x, HFIN.out.1, HFIN.out.2, HX.out.2⟩
    · have hsl := HSL.out
      have hHF := HHF.out
      have hgF := HGF.out
      have HOW := hown_any ⟨some ⟨bs, 0, none⟩, 1, 1⟩ [⟨(k : Int), (n : Int), s, v, a, dl, dc, deps, text⟩] W1 HR.out (fun h => by cases h) (fun x hx => by rw [List.mem_singleton.1 hx]; exact ⟨HD.out.below HB1.out, hdl⟩) (by show 1 ≤ 100000; decide)
      clear hHeld
      rw [if_pos (by kernel_rfl)]
      go_simp
      refine HOW.mono ?_
      rintro e W2 ⟨⟨ya, yn, yc⟩, Y, rfl, hO, hY, hB, hne⟩
      have HA2 := Lib.hid (HA1.out.below hB)
      have HM2 := Lib.hid (HM1.out.later hB)
      have HB2 := Lib.hid (HB1.out.trans (hB.mono HB1.out.size))
      obtain ⟨x, hYx, hxs⟩ : ∃ x, Y = [x] ∧ strip x = strip ⟨(k : Int), (n : Int), s, v, a, dl, dc, deps, text⟩ := by
        have hl : Y.length = 1 := by have := congrArg List.length hY; simpa using this
        match Y, hl, hY with
        | [x], _, hY => exact ⟨x, rfl, by simpa using hY⟩
      subst hYx
      have hyn : yn = 1 := by have := hO.slot.len; simpa using this.symm
      subst hyn
      have hDx : DpT W2 (fun j => w.heap.size ≤ j) x := (hO.deps x (List.mem_singleton_self x)).more fun j _ hj => by have := HB1.out.size; omega
      obtain ⟨yad, rfl⟩ : ∃ ad, ya = some ad := by
        cases ya with
        | none => exact absurd rfl (hne (by simp))
        | some ad => exact ⟨ad, rfl⟩
      have HL := Lib.hid hO.slot.lst
      have HX := Lib.hid (And.intro hDx hxs)
      refine hK.out _ _ HM2.out (fun hHeld => ?_)
      clear hK K HA1 HM1 HB1 HOW hO hY hB hne hDx hxs HR
      (try simp only [Act.put, List.setIfInBounds_toArray, List.set_cons_zero, List.set_cons_succ])
      refine wpAnyH_ready (rs := [9]) (by kernel_rfl) (by simp) (AllReadyH.cons rfl (fun K hK => ?_) AllReadyH.nil)
      have cS := HA2.out.cs k hk
      rw [hsl] at cS
      clear hHeld
      rw [if_pos (by kernel_rfl)]
      go_simp
      refine hK.out _ _ HM2.out (fun hHeld => ?_)
      clear hK K cS
      (try simp only [Act.put, List.setIfInBounds_toArray, List.set_cons_zero, List.set_cons_succ])
      refine wpAnyH_ready (rs := [13]) (by kernel_rfl) (by simp) (AllReadyH.cons rfl (fun K hK => ?_) AllReadyH.nil)
      have hSl := HA2.out.slot k hk
      rw [hsl] at hSl
      clear hHeld
      rw [if_pos (by kernel_rfl)]
      refine wp_append_h (.tmp 30) (.tmp 33) rfl ⟨sa, sn, sc⟩ (X k) rfl hSl yad 1 yc [x] rfl HL.out (by decide) (by show sn + 1 ≤ 200000; omega) (fun s' W' hs' hn' hg' hloc => ?_)
      clear hn'
      have HM' : MgB W' mb ⟨(k : Int), (n : Int), s, v, a, dl, dc, deps, text⟩ := (hg'.block mb HM2.out.lt (fun e => by
        obtain ⟨z, hz, e2⟩ := Sl.block e.symm
        exact hmbF (e2 ▸ hHF k hk z (by rw [hsl]; exact hz)))).trans HM2.out
      obtain ⟨HF, HC⟩ := HH.out.put HB2.out hk HX.out.1 hs' (by rw [hsl]; exact hg') (by rw [hsl]; exact hloc)
      have HFIN := Lib.hid (And.intro HF HC)
      have c9 : W'.cell? ⟨g, 64 + k, none⟩ = some (.slice sa sn sc) := by
        have := HA2.out.cs k hk
        rw [hsl] at this
        exact (World.cell?_of_block (a := ⟨g, 64 + k, none⟩) (hg'.block g HA2.out.lt (fun e => by
          obtain ⟨z, hz, e2⟩ := Sl.block e.symm
          exact HA2.out.slot_ne k hk z (by rw [hsl]; exact hz) e2))).trans this
      have f9 : W'.frozen? ⟨g, 64 + k, none⟩ = false := (World.frozen?_of_block (a := ⟨g, 64 + k, none⟩) (hg'.block g HA2.out.lt (fun e => by
          obtain ⟨z, hz, e2⟩ := Sl.block e.symm
          exact HA2.out.slot_ne k hk z (by rw [hsl]; exact hz) e2))).trans (HA2.out.free _)
      have HMs : MgB (W'.setCell ⟨g, 64 + k, none⟩ s'.v) mb ⟨(k : Int), (n : Int), s, v, a, dl, dc, deps, text⟩ := HM'.set_other g _ _ (fun e => hmbF (e ▸ hgF))
      refine hK.out _ _ HM' (fun hHeld => ?_)
      clear hK K HF HC hs' hg' hloc hSl HA2 HM2 HB2 HM'
      (try simp only [Act.put, List.setIfInBounds_toArray, List.set_cons_zero, List.set_cons_succ])
      refine stake (i := 16) (v := (.pointer (some ⟨g, 64 + k, none⟩))) 37 rfl (by kernel_rfl) (by kernel_rfl) (by kernel_rfl) (by kernel_rfl) (fun _ _ _ h => h) (.inl ⟨by kernel_rfl, fun w' hS => by (go_simp)⟩) hHeld ?_
      (try simp only [Act.put, List.setIfInBounds_toArray, List.set_cons_zero, List.set_cons_succ])
      obtain ⟨pa, pn, pc⟩ := s'
      unfold Sl.v at HFIN HMs
      simp only at HFIN HMs
      (try unfold Sl.v)
      refine wpAnyH_ready (rs := [17]) (by kernel_rfl) (by simp) (AllReadyH.cons rfl (fun K hK => ?_) AllReadyH.nil)
      clear hHeld
      rw [if_pos (by kernel_rfl)]
      go_simp
      refine hK.out _ _ HMs (fun hHeld => ?_)
      clear hK K hHeld HMs c9 f9
      refine wpAnyH_done (by kernel_rfl) ?_ _
      go_wp2
      go_ret
      exact ⟨rfl, _, x, HFIN.out.1, HFIN.out.2, HX.out.2⟩
end
end Go.Proofs.Ytfocjcdfpnbkjaa
