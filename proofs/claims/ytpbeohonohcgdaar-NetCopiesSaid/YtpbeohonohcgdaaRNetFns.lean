/- The net's calls that only read. -/
import Derived.Test.YtpbeohonohcgdaaRNetAt
set_option linter.unusedVariables false
set_option linter.unusedSimpArgs false
namespace Go.Proofs.YtpbeohonohcgdaaR
open Go.RowKit Go.Sort

theorem nlen {w : World} {g B : Nat} {N : Nt} {ao : Option Addr} {cap : Nat} (h : NetAt w g B N ao cap) :
    Calls Try.prog 19 #[.pointer (some ⟨g, 0, none⟩)] w fun e w' => e = .returned (.int .i64 (N.rows.length : Nat)) ∧ w = w' := by
  have c := h.bag
  have f := h.few
  generalize N.rows.length = n at *
  clear h
  go_enter Try.func19, Try.ntmps19
  go_wp2
  go_ret
  exact ⟨rfl, rfl⟩
def isFull (n : Nat) : Bool := decide (4096 ≤ n)
theorem nfull {w : World} {g B : Nat} {N : Nt} {ao : Option Addr} {cap : Nat} (h : NetAt w g B N ao cap) :
    Calls Try.prog 33 #[.pointer (some ⟨g, 0, none⟩)] w fun e w' => e = .returned (.bool (isFull N.rows.length)) ∧ w = w' := by
  have c := h.bag
  have f := h.few
  generalize N.rows.length = n at *
  clear h
  have H := Lib.hid (show decide ((4096 : Int) ≤ (n : Int)) = isFull n by unfold isFull; congr 1; apply propext; omega)
  go_enter Try.func33, Try.ntmps33
  go_wp2
  go_ret
  exact ⟨by rw [← H.out]; rfl, rfl⟩
/-- Is there one of the number i? -/
def hasB (n : Nat) (i : Int) : Bool := decide (0 ≤ i) && decide (i < n)
theorem nhas {w : World} {g B : Nat} {N : Nt} {ao : Option Addr} {cap : Nat} (h : NetAt w g B N ao cap) (i : Int) (h0 : -9223372036854775808 ≤ i) (h1 : i ≤ 9223372036854775807) :
    Calls Try.prog 32 #[.pointer (some ⟨g, 0, none⟩), .int .i64 i] w fun e w' => e = .returned (.bool (hasB N.rows.length i)) ∧ w = w' := by
  have c := h.bag
  have f := h.few
  generalize N.rows.length = n at *
  clear h
  have H := Lib.hid (show (decide ((0 : Int) ≤ i) && decide (i < (n : Int))) = hasB n i from rfl)
  by_cases hi : 0 ≤ i
  · go_enter Try.func32, Try.ntmps32
    go_wp2
    go_ret
    exact ⟨by rw [← H.out, decide_eq_true hi]; rfl, rfl⟩
  · go_enter Try.func32, Try.ntmps32
    go_wp2
    go_ret
    exact ⟨by rw [← H.out, decide_eq_false (show ¬ 0 ≤ i by omega)]; rfl, rfl⟩

/-- Are p and q linked? -/
def linkedB (N : Nt) (p q : Int) : Bool := mem N.procs p && mem (N.links.getD p.toNat 0) q
theorem mem_range {a : Nat} {p : Int} (h : mem a p = true) : 0 ≤ p ∧ p < 64 := by
  unfold mem at h
  simp at h
  omega
set_option maxHeartbeats 1000000 in
theorem nlinked {w : World} {g B : Nat} {N : Nt} {ao : Option Addr} {cap : Nat} (h : NetAt w g B N ao cap) (p q : Int) (p0 : -9223372036854775808 ≤ p) (p1 : p ≤ 9223372036854775807) (q0 : -9223372036854775808 ≤ q) (q1 : q ≤ 9223372036854775807) :
    Calls Try.prog 13 #[.pointer (some ⟨g, 0, none⟩), .int .i64 p, .int .i64 q] w fun e w' => e = .returned (.bool (linkedB N p q)) ∧ w = w' := by
  have c0 := h.procs
  have hp := h.pr
  cases hm : mem N.procs p with
  | false =>
    have H := Lib.hid (show linkedB N p q = false by unfold linkedB; rw [hm]; rfl)
    have M := has_any N.procs p w hp p0 p1
    rw [hm] at M
    generalize N.procs = a at *
    clear h hm
    go_enter Try.func13, Try.ntmps13
    go_wp2_with (go_at_call 16; refine M.mono ?_; rintro e w' ⟨rfl, rfl⟩)
    go_ret
    exact ⟨by rw [H.out]; rfl, rfl⟩
  | true =>
    obtain ⟨r0, r1⟩ := mem_range hm
    obtain ⟨k, rfl⟩ := Int.eq_ofNat_of_zero_le r0
    have hk : k < 64 := by omega
    have hkl : k < N.links.length := by rw [h.len]; exact hk
    have cl := h.link k hk
    have hl := h.lk _ (List.getElem_mem hkl)
    have H := Lib.hid (show linkedB N (k : Int) q = mem N.links[k] q by unfold linkedB; rw [hm]; simp [List.getD_eq_getElem?_getD, hkl])
    have M := has_any N.procs (k : Int) w hp p0 p1
    rw [hm] at M
    have M2 := has_any N.links[k] q w hl q0 q1
    generalize N.links[k] = b at *
    generalize N.procs = a at *
    clear h hm hkl
    go_enter Try.func13, Try.ntmps13
    go_wp2_with (go_at_call 16; first | ((with_reducible refine M.mono ?_); rintro e w' ⟨rfl, rfl⟩) | ((with_reducible refine M2.mono ?_); rintro e w' ⟨rfl, rfl⟩))
    go_ret
    exact ⟨by rw [H.out]; rfl, rfl⟩
end Go.Proofs.YtpbeohonohcgdaaR
