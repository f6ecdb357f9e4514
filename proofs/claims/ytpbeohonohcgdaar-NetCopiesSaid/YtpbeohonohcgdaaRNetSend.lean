/- Send. -/
import Derived.Test.YtpbeohonohcgdaaRNetDrop
set_option linter.unusedVariables false
set_option linter.unusedSimpArgs false
namespace Go.Proofs.YtpbeohonohcgdaaR
open Go.RowKit Go.Sort

theorem has_quiet {a : Nat} {p : Int} {b : Bool} (hm : mem a p = b) (ha : a < 18446744073709551616) (h0 : -9223372036854775808 ≤ p) (h1 : p ≤ 9223372036854775807) (w : World) (n : Nat) :
    Calls Try.prog 16 #[.int .u64 (a : Nat), .int .i64 p] (w.drewN n) fun e w'' => e = .returned (.bool b) ∧ ∃ m, w'' = w.drewN m :=
  Calls.quiet_of_same ((has_any a p _ ha h0 h1).mono fun _ _ ⟨he, hw⟩ => ⟨by rw [he, hm], hw.symm⟩)
abbrev valD (d : Dg) : Value := .agg #[.int .i64 d.frm, .int .i64 d.to, .string d.data, .bool d.torn]
/-- Why a datagram isn't sent; 0: it is. -/
def sendC (N : Nt) (d : Dg) : Int := if (mem N.procs d.frm && mem N.procs d.to) = false then 1 else if linkedB N d.frm d.to = false then 5 else if isFull N.rows.length = true then 6 else 0
def boxD (w : World) (d : Dg) : World := w.alloc (.cells #[.int .i64 d.frm, .int .i64 d.to, .string d.data, .bool d.torn] 28)
theorem boxD_below (w : World) (d : Dg) : Go.RowKit.Below w.heap.size w (boxD w d) := (Below.refl w.heap.size w).alloc (Nat.le_refl _) _
theorem boxD_size (w : World) (d : Dg) : (boxD w d).heap.size = w.heap.size + 1 := by simp [boxD]
theorem boxD_at (w : World) (d : Dg) : DgB (boxD w d) w.heap.size d.frm d.to d.data d.torn := DgB.new w _ _ _ _
theorem below_drewN {B : Nat} {a w : World} (h : Go.RowKit.Below B a w) (n : Nat) : Go.RowKit.Below B a (w.drewN n) := ⟨h.os, h.tape, h.output, h.size, h.block⟩
/-- Behind the test whether both are processes. -/
structure SendAt (w W : World) (g B : Nat) (N : Nt) (ao : Option Addr) (cap : Nat) (d : Dg) : Prop where
  net : NetAt W g B N ao cap
  box : DgB W w.heap.size d.frm d.to d.data d.torn
  below : Go.RowKit.Below w.heap.size w W
theorem SendAt.new {w : World} {g B : Nat} {N : Nt} {ao : Option Addr} {cap : Nat} (h : NetAt w g B N ao cap) (d : Dg) (n : Nat) : SendAt w ((boxD w d).drewN n) g B N ao cap d :=
  ⟨(h.below (boxD_below w d)).drewN n, boxD_at w d, below_drewN (boxD_below w d) n⟩
set_option maxHeartbeats 2000000 in
theorem nsend_no {w : World} {g B : Nat} {N : Nt} {ao : Option Addr} {cap : Nat} (h : NetAt w g B N ao cap) (d : Dg) (hd : d.ok) (c : Int) (hs : sendC N d = c) (hc : c ≠ 0) :
    Calls Try.prog 21 #[.pointer (some ⟨g, 0, none⟩), valD d] w fun e w' => e = .returned (.int .i64 c) ∧ Below w.heap.size w w' := by
  obtain ⟨f0, f1, t0, t1, _⟩ := hd
  have Z := boxD_at w d
  have A := h.below (boxD_below w d)
  have hgl := h.lt
  have z0 := Z.c0
  have z1 := Z.c1
  have c0 := A.procs
  have SS := Lib.hid (SendAt.new h d)
  have HB := Lib.hid (below_drewN (boxD_below w d))
  unfold sendC at hs
  have hpr := h.pr
  cases m1 : mem N.procs d.frm
  · obtain rfl : (1 : Int) = c := by rw [m1] at hs; exact hs
    have M1 := Lib.hid (has_quiet m1 hpr f0 f1)
    clear hs hc A Z h SS m1
    unfold boxD at *
    go_enter Try.func21, Try.ntmps21
    go_wp2_with fail
    go_quiet ((go_at_call 16; exact M1.out _ _))
    go_wp2
    go_ret
    exact ⟨rfl, HB.out _⟩
  cases m2 : mem N.procs d.to
  · obtain rfl : (1 : Int) = c := by rw [m1, m2] at hs; exact hs
    have M1 := Lib.hid (has_quiet m1 hpr f0 f1)
    have M2 := Lib.hid (has_quiet m2 hpr t0 t1)
    clear hs hc A Z h SS m1 m2
    unfold boxD at *
    go_enter Try.func21, Try.ntmps21
    go_wp2_with fail
    go_quiet ((go_at_call 16; first | (with_reducible exact M1.out _ _) | (with_reducible exact M2.out _ _)))
    go_wp2
    go_ret
    exact ⟨rfl, HB.out _⟩
  have M1 := Lib.hid (has_quiet m1 hpr f0 f1)
  have M2 := Lib.hid (has_quiet m2 hpr t0 t1)
  rw [m1, m2, if_neg (by simp)] at hs
  have HL := Lib.hid (show ∀ (W : World), NetAt W g B N ao cap → _ from fun W h' => nlinked h' d.frm d.to f0 f1 t0 t1)
  clear A Z h m1 m2 HB f0 f1 t0 t1
  cases hl : linkedB N d.frm d.to
  · obtain rfl : (5 : Int) = c := by rw [hl] at hs; exact hs
    have HL : Hid (∀ (W : World), NetAt W g B N ao cap → Calls Try.prog 13 #[.pointer (some ⟨g, 0, none⟩), .int .i64 d.frm, .int .i64 d.to] W fun e w' => e = .returned (.bool false) ∧ W = w') := Lib.hid fun W h' => by rw [← hl]; exact HL.out W h'
    clear hs hc hl
    unfold boxD at *
    go_enter Try.func21, Try.ntmps21
    go_wp2_with fail
    go_quiet ((go_at_call 16; first | (with_reducible exact M1.out _ _) | (with_reducible exact M2.out _ _)))
    have S := SS.out nq
    unfold boxD at S
    clear c0 z0 z1
    generalize World.drewN (w.alloc _) nq = W at S ⊢
    have z0 := S.box.c0
    have z1 := S.box.c1
    go_wp2_with (go_at_call 13; refine (HL.out _ S.net).mono ?_; rintro e w' ⟨rfl, rfl⟩)
    go_ret
    exact ⟨rfl, S.below⟩
  · rw [hl, if_neg (by simp)] at hs
    cases hf : isFull N.rows.length
    · rw [hf] at hs; exact absurd hs.symm hc
    obtain rfl : (6 : Int) = c := by rw [hf] at hs; exact hs
    have HL : Hid (∀ (W : World), NetAt W g B N ao cap → Calls Try.prog 13 #[.pointer (some ⟨g, 0, none⟩), .int .i64 d.frm, .int .i64 d.to] W fun e w' => e = .returned (.bool true) ∧ W = w') := Lib.hid fun W h' => by rw [← hl]; exact HL.out W h'
    have HF : Hid (∀ (W : World), NetAt W g B N ao cap → Calls Try.prog 33 #[.pointer (some ⟨g, 0, none⟩)] W fun e w' => e = .returned (.bool true) ∧ W = w') := Lib.hid fun W h' => by rw [← hf]; exact nfull h'
    clear hs hc hl hf
    unfold boxD at *
    go_enter Try.func21, Try.ntmps21
    go_wp2_with fail
    go_quiet ((go_at_call 16; first | (with_reducible exact M1.out _ _) | (with_reducible exact M2.out _ _)))
    have S := SS.out nq
    unfold boxD at S
    clear c0 z0 z1
    generalize World.drewN (w.alloc _) nq = W at S ⊢
    have z0 := S.box.c0
    have z1 := S.box.c1
    go_wp2_with (first | (go_at_call 13; refine (HL.out _ S.net).mono ?_; rintro e w' ⟨rfl, rfl⟩) | (go_at_call 33; refine (HF.out _ S.net).mono ?_; rintro e w' ⟨rfl, rfl⟩))
    go_ret
    exact ⟨rfl, S.below⟩
theorem grown_of_below {w w' : World} (h : Go.RowKit.Below w.heap.size w w') (o : Option Nat) : w.grownBy w' o := ⟨h.os, h.tape, h.output, h.size, fun k hk _ => h.block k hk⟩
theorem sendC_ok {N : Nt} {d : Dg} (hs : sendC N d = 0) : mem N.procs d.frm = true ∧ mem N.procs d.to = true ∧ linkedB N d.frm d.to = true ∧ N.rows.length < 4096 := by
  unfold sendC at hs
  split at hs
  · exact absurd hs (by decide)
  rename_i h1
  split at hs
  · exact absurd hs (by decide)
  rename_i h2
  split at hs
  · exact absurd hs (by decide)
  rename_i h3
  refine ⟨?_, ?_, by simpa using h2, by unfold isFull at h3; simpa using h3⟩
  · cases h : mem N.procs d.frm <;> simp_all
  · cases h : mem N.procs d.to <;> simp_all
set_option maxHeartbeats 4000000 in
theorem nsend_ok {w : World} {g B : Nat} {N : Nt} {ao : Option Addr} {cap : Nat} (h : NetAt w g B N ao cap) (d : Dg) (hd : d.ok) (hs : sendC N d = 0) :
    Calls Try.prog 21 #[.pointer (some ⟨g, 0, none⟩), valD d] w fun e w' => e = .returned (.int .i64 0) ∧ ∃ ao' cap', NetAt w' g B { N with rows := N.rows ++ [d] } ao' cap' ∧ Moved w w' g ao ao' := by
  obtain ⟨f0, f1, t0, t1, hsz⟩ := hd
  have SS := Lib.hid (SendAt.new h d)
  have hpr := h.pr
  have Z := boxD_at w d
  have z0 := Z.c0
  have z1 := Z.c1
  have c0 := (h.below (boxD_below w d)).procs
  have hgl := h.lt
  have HK := Lib.hid h
  obtain ⟨m1, m2, hl, hlt⟩ := sendC_ok hs
  have hf : isFull N.rows.length = false := by unfold isFull; simpa using hlt
  have M1 := Lib.hid (has_quiet m1 hpr f0 f1)
  have M2 := Lib.hid (has_quiet m2 hpr t0 t1)
  have HL : Hid (∀ (W : World), NetAt W g B N ao cap → Calls Try.prog 13 #[.pointer (some ⟨g, 0, none⟩), .int .i64 d.frm, .int .i64 d.to] W fun e w' => e = .returned (.bool true) ∧ W = w') := Lib.hid fun W h' => by rw [← hl]; exact nlinked h' d.frm d.to f0 f1 t0 t1
  have HF : Hid (∀ (W : World), NetAt W g B N ao cap → Calls Try.prog 33 #[.pointer (some ⟨g, 0, none⟩)] W fun e w' => e = .returned (.bool false) ∧ W = w') := Lib.hid fun W h' => by rw [← hf]; exact nfull h'
  have HD := Lib.hid (Dg.ok.mk f0 f1 t0 t1 hsz)
  clear h hs hl hf m1 m2 Z f0 f1 t0 t1 hsz
  unfold boxD at *
  go_enter Try.func21, Try.ntmps21
  go_wp2_with fail
  go_quiet ((go_at_call 16; first | (with_reducible exact M1.out _ _) | (with_reducible exact M2.out _ _)))
  have S := SS.out nq
  unfold boxD at S
  clear c0 z0 z1
  generalize World.drewN (w.alloc _) nq = W at S ⊢
  have z0 := S.box.c0
  have z1 := S.box.c1
  go_wp2_with (first | (go_at_call 13; refine (HL.out _ S.net).mono ?_; rintro e w' ⟨rfl, rfl⟩) | (go_at_call 33; refine (HF.out _ S.net).mono ?_; rintro e w' ⟨rfl, rfl⟩))
  have z2 := S.box.c2
  have z3 := S.box.c3
  have cb := S.net.bag
  have fr := S.net.free 65
  have hgl2 := S.net.lt
  have hrow := Lib.hid S.net.row
  have hS := Lib.hid S
  obtain ⟨i0, hi0, hz0, hz1, hz2⟩ := info_parts infoD
  have hne : Hid (some g ≠ (Value.slice ao N.rows.length cap).ownBlock) := by
    refine Lib.hid ?_
    rw [own_block]
    intro a e
    rcases S.net.spot with ⟨e1, _⟩ | ⟨b, e1, _, _, e2, _⟩
    · rw [e1] at e; cases e
    · rw [e1] at e; cases e; exact fun e3 => e2 e3.symm
  have hBs : B ≤ W.heap.size := by have := S.net.base; omega
  have HN : Hid (N.rows.length = (flat encD N.rows).length / 4) := Lib.hid (by rw [flat_length encD 4 encD_length]; omega)
  generalize hn : N.rows.length = n at *
  have hn := Lib.hid hn
  clear S
  have hZ : Hid (∀ j u, (encD d)[j]? = some u → (W.alloc (.cells #[.int .i64 d.frm, .int .i64 d.to, .string d.data, .bool d.torn] 28)).drew.cell? ((⟨W.heap.size, 0, none⟩ : Addr).add j) = some u) :=
    Lib.hid (World.news_of_block (Own.drew (Own.new W 28 #[.int .i64 d.frm, .int .i64 d.to, .string d.data, .bool d.torn])))
  have hB2 : Hid (B ≤ (W.alloc (.cells #[.int .i64 d.frm, .int .i64 d.to, .string d.data, .bool d.torn] 28)).drew.heap.size) := Lib.hid (by show B ≤ (W.alloc _).heap.size; simp; omega)
  go_region_law (refine step_append_lies _ rfl (.tmp 39) (.tmp 41) 43 rfl B 28 i0 zeroD 4 40 Try.underlying43 hi0 hz0 hz1 hz2 rfl (by decide) (.slice ao n cap) n (flat encD N.rows) (by simp [Act.eval, Act.put]) (hrow.out.alloc _).drew ⟨W.heap.size, 0, none⟩ 1 1 (encD d) (by simp [Act.eval, Act.put]) rfl hZ.out (encD_one d) (by decide) (by unfold maxLen; omega) (by omega) hB2.out _ rfl ?_; intro b' cap' w1 R1 G1 hat hlt1; (have c1 : w1.cell? ⟨g, 65, none⟩ = some (.slice ao n cap) := by rw [G1.cell_far _ (by show g < (W.alloc _).heap.size; simp; omega) hne.out]; exact cell_later ((Grw.refl W).alloc _).drew.below cb); (have f1 : w1.frozen? ⟨g, 65, none⟩ = false := by rw [G1.frozen_far _ (by show g < (W.alloc _).heap.size; simp; omega) hne.out]; exact (hS.out.net.below ((Grw.refl W).alloc _).drew.below).free 65); (have HR := Lib.hid R1); (have HG := Lib.hid G1); (have HA := Lib.hid hat); clear R1 G1 hat)
  all_goals
    go_wp2
    go_ret
    have hgr := grown_tr (grown_of_below ((Grw.refl W).alloc (.cells #[.int .i64 d.frm, .int .i64 d.to, .string d.data, .bool d.torn] 28)).drew.below _) HG.out
    have hn := hn.out
    subst hn
    obtain ⟨A1, A2⟩ := hS.out.net.rowed hgr (N.rows ++ [d]) (N.rows.length + 1) (by simp) (some ⟨b', 0, none⟩) cap' (by rw [flat_append, flat_cons, flat_nil, List.append_nil]; exact HR.out) (fun a e => by
      cases e
      rcases HA.out with h1 | h1
      · left
        cases ao with
        | none => cases h1
        | some a0 => exact ⟨a0, rfl, by injection h1⟩
      · right
        show W.heap.size ≤ b'
        rw [h1]
        show W.heap.size ≤ (W.alloc _).heap.size
        simp) (fun x hx => by
      rcases List.mem_append.1 hx with h1 | h1
      · exact hS.out.net.ok x h1
      · rw [List.mem_singleton.1 h1]; exact HD.out) (by simp; omega)
    exact ⟨rfl, _, _, A1, (Moved.of_below hS.out.below g ao).trans A2⟩
end Go.Proofs.YtpbeohonohcgdaaR
