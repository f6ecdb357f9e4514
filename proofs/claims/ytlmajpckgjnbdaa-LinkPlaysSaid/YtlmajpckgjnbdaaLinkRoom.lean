/- Room, Next, Got. -/
import Derived.Test.YtlmajpckgjnbdaaLinkFns
set_option linter.unusedVariables false
set_option linter.unusedSimpArgs false
namespace Go.Proofs.Ytlmajpckgjnbdaa
open Go.RowKit Go.Sort

set_option maxHeartbeats 4000000 in
theorem lroom {w : World} {g : Nat} {W : Wn} (h : LkAt w g W) (r : Int) (r0 : -9223372036854775808 ≤ r) (r1 : r ≤ 9223372036854775807) :
    Calls Try.prog 10 #[.pointer (some ⟨g, 0, none⟩), .int .i64 r] w fun e w' => e = .returned (.bool (roomN W r)) ∧ ∃ n, w' = w.drewN n := by
  have c2 := h.c2
  have c3 := h.c3
  have s1 := h.ok.inv.s1
  have s2 := h.ok.inv.s2
  have hs := h.ok.s
  have hl := lowN_sent W
  have HL : ∀ n, Calls Try.prog 17 #[.pointer (some ⟨g, 0, none⟩)] (w.drewN n) fun e w' => e = .returned (.int .u32 (lowN W : Nat)) ∧ w.drewN n = w' := fun n => llow (h.drewN n)
  have hW : IntKind.u32.wrap ((W.sent : Int) - (lowN W : Int)) = (W.sent : Int) - (lowN W : Int) := IntWalk.u32_in _ (by omega)
  have HD := Lib.hid (show roomN W r = decide ((W.sent : Int) - (lowN W : Int) < (W.size : Int) - max r 0) from rfl)
  generalize lowN W = q at *
  clear h
  go_enter Try.func10, Try.ntmps10
  go_upto_region 1 with fail
  go_quiet ((go_at_call 17; exact Calls.quiet_of_same ((HL _).mono fun _ _ ⟨he, hw⟩ => ⟨he, hw.symm⟩)))
  go_wp2
  go_ret
  exact ⟨by rw [HD.out]; rfl, _, rfl⟩
theorem below_drewN11 (w : World) (n : Nat) : Below w.heap.size w (w.drewN n) := ((Grw.refl w).drewN n).below
/-- What Next answers. -/
def numN (W : Wn) (r : Int) : Nat := if roomN W r then W.sent + 1 else 0
def codeN (W : Wn) (r : Int) : Int := if roomN W r then 0 else 6
theorem numN_yes {W : Wn} {r : Int} (h : roomN W r = true) : numN W r = W.sent + 1 := by unfold numN; rw [h]; rfl
theorem numN_no {W : Wn} {r : Int} (h : roomN W r = false) : numN W r = 0 := by unfold numN; rw [h]; rfl
theorem codeN_yes {W : Wn} {r : Int} (h : roomN W r = true) : codeN W r = 0 := by unfold codeN; rw [h]; rfl
theorem codeN_no {W : Wn} {r : Int} (h : roomN W r = false) : codeN W r = 6 := by unfold codeN; rw [h]; rfl
set_option maxHeartbeats 4000000 in
theorem lnext {w : World} {g : Nat} {W : Wn} (h : LkAt w g W) (r : Int) (r0 : -9223372036854775808 ≤ r) (r1 : r ≤ 9223372036854775807) (hs : W.sent ≤ 1000000) :
    Calls Try.prog 12 #[.pointer (some ⟨g, 0, none⟩), .int .i64 r] w fun e w' => e = .returned (.tuple #[.int .u32 (numN W r : Nat), .int .i64 (codeN W r)]) ∧ Linked w w' g (nextN W r) := by
  have RM := lroom h r r0 r1
  cases hr : roomN W r with
  | false =>
    rw [hr] at RM
    rw [numN_no hr, codeN_no hr, nextN_no hr]
    have HH := Lib.hid h
    clear h hr hs
    go_enter Try.func12, Try.ntmps12
    go_wp2_with fail
    refine RM.mono ?_
    rintro e w1 ⟨rfl, n, rfl⟩
    go_wp2
    go_ret2
    exact ⟨rfl, (Linked.refl HH.out).then (below_drewN11 _ _)⟩
  | true =>
    rw [hr] at RM
    rw [numN_yes hr, codeN_yes hr, nextN_yes hr]
    have hok := next_ok h.ok r hs
    rw [nextN_yes hr] at hok
    have HD := Lib.hid (fun n => (h.drewN n).send hok)
    have HO := Lib.hid (fun n => ((h.drewN n).send hok).at_.c3)
    have c3 : ∀ n, (w.drewN n).cell? ⟨g, 3, none⟩ = some (.int .u32 (W.sent : Int)) := fun n => (h.drewN n).c3
    have f3 : ∀ n, (w.drewN n).frozen? ⟨g, 3, none⟩ = false := fun n => (h.drewN n).free 3
    clear h hr hok
    go_enter Try.func12, Try.ntmps12
    go_wp2_with fail
    refine RM.mono ?_
    rintro e w1 ⟨rfl, n, rfl⟩
    have c3 := c3 n
    have f3 := f3 n
    have HD := Lib.hid (HD.out n)
    have HL := Lib.hid (below_drewN11 w n)
    clear RM HO
    generalize w.drewN n = V at *
    go_wp2
    go_ret2
    exact ⟨by rw [Int.natCast_add]; rfl, Linked.below HL.out HD.out⟩

set_option maxHeartbeats 4000000 in
theorem lgot {w : World} {g : Nat} {W : Wn} (h : LkAt w g W) (p : Int) (p0 : -9223372036854775808 ≤ p) (p1 : p ≤ 9223372036854775807) (n : Nat) (hn : n < 4294967296) :
    Calls Try.prog 14 #[.pointer (some ⟨g, 0, none⟩), .int .i64 p, .int .u32 (n : Int)] w fun e w' => e = .returned (.tuple #[]) ∧ Linked w w' g (gotN W p n) := by
  have c1 := h.c1
  have M := has_any W.oth p w h.ok.inv.olt p0 p1
  cases hm : mem W.oth p with
  | false =>
    rw [gotN_out hm]
    rw [hm] at M
    have HH := Lib.hid h
    clear h hm
    go_enter Try.func14, Try.ntmps14
    go_wp2_with (go_at_call 28; refine M.mono ?_; rintro e w' ⟨rfl, rfl⟩)
    go_end0
    exact ⟨rfl, Linked.refl HH.out⟩
  | true =>
    rw [hm] at M
    obtain ⟨k, rfl, hk, -⟩ := mem_nat11 hm
    rw [gotN_put k n hm]
    have hok := got_ok h.ok k n
    rw [gotN_put k n hm] at hok
    have HD := Lib.hid ((h.drewN 1).put k hk _ hok)
    have HL := Lib.hid (below_drewN11 w 1)
    have cg := h.cg k hk
    have fg := h.free (4 + k)
    have c3 := h.c3
    have hk' : (k : Int) < 64 := by omega
    obtain ⟨z, hz⟩ : ∃ z, z = max (W.got k) (min n W.sent) := ⟨_, rfl⟩
    rw [← hz] at HD
    have hz' : max (W.got k : Int) (min (n : Int) (W.sent : Int)) = (z : Int) := by omega
    rw [← hz]
    clear h hm hok hz
    go_enter Try.func14, Try.ntmps14
    go_upto_region 1 with (go_at_call 28; refine M.mono ?_; rintro e w' ⟨rfl, rfl⟩)
    go_still_tail 18, (by kernel_rfl)
    change wpList _ _ _ _ _ (w.drewN 1)
    have fg : (w.drewN 1).frozen? ⟨g, 4 + k, none⟩ = false := fg
    have cg : (w.drewN 1).cell? ⟨g, 4 + k, none⟩ = some (.int .u32 (W.got k : Int)) := cg
    clear c1 c3 M
    generalize w.drewN 1 = V at *
    go_wp2
    go_end0
    exact ⟨rfl, Linked.below HL.out HD.out⟩
end Go.Proofs.Ytlmajpckgjnbdaa
