/- Reading a packet's body, any kind; what is recovered. -/
import Derived.Test.YtibngfpjdookkaaRdKs
import Derived.Test.YtibngfpjdookkaaOnce
import Derived.Tactics2
import Derived.Defers
import Derived.Recover
set_option linter.unusedVariables false
set_option linter.unusedSimpArgs false
namespace Go.Proofs.Ytibngfpjdookkaa
open Go.RowKit Go.Sort

theorem rpacket (w : World) (b : Nat) (s : ByteArray) (a : Nat) (k f t : Int) (y : ByteArray) (hs : s.size ≤ 1099511627776) (h : Rd w b s a) (hk1 : 1 ≤ k) (hk2 : k ≤ 11) :
    Calls Try.prog 22 #[.agg #[.pointer (some ⟨b, 0, none⟩)], .agg #[.int .i64 k, .int .i64 f, .int .i64 t, .string y]] w (RP (getFs (rowP (baseP k f t)) (baseP k f t)) (PkD w) w b s a) := by
  obtain rfl | rfl | rfl | rfl | rfl | rfl | rfl | rfl | rfl | rfl | rfl : k = 1 ∨ k = 2 ∨ k = 3 ∨ k = 4 ∨ k = 5 ∨ k = 6 ∨ k = 7 ∨ k = 8 ∨ k = 9 ∨ k = 10 ∨ k = 11 := by omega
  · exact rpacket_1 w b s a f t y hs h
  · exact rpacket_2 w b s a f t y hs h
  · exact rpacket_3 w b s a f t y hs h
  · exact rpacket_4 w b s a f t y hs h
  · exact rpacket_5 w b s a f t y hs h
  · exact rpacket_6 w b s a f t y hs h
  · exact rpacket_7 w b s a f t y hs h
  · exact rpacket_8 w b s a f t y hs h
  · exact rpacket_9 w b s a f t y hs h
  · exact rpacket_10 w b s a f t y hs h
  · exact rpacket_11 w b s a f t y hs h

theorem assert_errno (w : World) (c : Int) : (Instr.typeAssert (.iface 36 (.int .i64 c)) 20 36 true).run Try.prog w = .ok (.tuple #[.int .i64 c, .bool true]) w := by kernel_rfl
theorem errno_any (c : Int) (w : World) : Calls Try.prog 19 #[.iface 36 (.int .i64 c)] w fun e w' => e = .returned (.int .i64 c) ∧ w = w' := by
  have ha := fun W => assert_errno W c
  go_enter Try.func19, Try.ntmps19
  go_wp2
  go_ret
  exact ⟨rfl, rfl⟩

theorem neq_iface (w : World) (c : Int) : (binOp .neq 20 (.iface 36 (.int .i64 c)) .nilIface).run Try.prog w = .ok (.bool true) w := by kernel_rfl
theorem neq_nil (w : World) : (binOp .neq 20 .nilIface .nilIface).run Try.prog w = .ok (.bool false) w := by kernel_rfl

set_option maxHeartbeats 1000000 in
theorem pcatch (g g1 : Nat) (c : Int) (w : World) {q : Pk} {T : ByteArray} {vd vg vx : Vc} (hg : Own w g 35 (encP q T vd vg vx).toArray) (v1 : Value) (h1 : Own w g1 36 #[v1]) (hne : g1 ≠ g) :
    CallsD Try.prog 18 #[.pointer (some ⟨g, 0, none⟩), .pointer (some ⟨g1, 0, none⟩)] (.panicking ({ v := .iface 36 (.int .i64 c), recovered := false } :: [])) w fun e u' w' =>
      e = .returned (.tuple #[]) ∧ u' = .panicking ({ v := .iface 36 (.int .i64 c), recovered := true } :: []) ∧ w' = (w.setRow g (encP zeroP { data := #[] } Vc.nil Vc.nil Vc.nil).toArray).setCell ⟨g1, 0, none⟩ (.int .i64 c) := by
  have hn := fun W => neq_iface W c
  have c1 : (w.setRow g (encP zeroP { data := #[] } Vc.nil Vc.nil Vc.nil).toArray).cell? ⟨g1, 0, none⟩ = some v1 := (h1.row_other zeroPv hne).at_ 0 _ rfl
  have f1 : (w.setRow g (encP zeroP { data := #[] } Vc.nil Vc.nil Vc.nil).toArray).frozen? ⟨g1, 0, none⟩ = false := (h1.row_other zeroPv hne).free 0
  refine callsD_of_wpS Try.func18 rfl fun c₀ cs hu => ?_
  apply wpS_seq
  apply wpS_region
  simp [wpOpsS, go_sem, recoverD, hu, Try.ntmps18, Exit.thenS]
  refine wpS_of_wp ?_
  rw [show (#[Value.pointer (some ⟨g, 0, none⟩), Value.pointer (some ⟨g1, 0, none⟩)] ++ ((Array.replicate 7 undef).setIfInBounds 1 (Value.iface 36 (.int .i64 c))).setIfInBounds 0 (Value.iface 36 (.int .i64 c))) = #[Value.pointer (some ⟨g, 0, none⟩), Value.pointer (some ⟨g1, 0, none⟩), Value.iface 36 (.int .i64 c), Value.iface 36 (.int .i64 c), undef, undef, undef, undef, undef] from rfl]
  go_wp2_with fail
  refine (errno_any c _).mono ?_
  rintro e w1 ⟨rfl, rfl⟩
  go_wp2_with (refine store_packet (p := zeroP) (T := { data := #[] }) (vd := Vc.nil) (vg := Vc.nil) (vx := Vc.nil) rfl (.tmp 0) (.tmp 6) rfl g rfl rfl hg ?_)
  simp [bodyPostS, results, Try.results18]
theorem pidle (p0 p1 : Addr) (w : World) :
    CallsD Try.prog 18 #[.pointer (some p0), .pointer (some p1)] .returning w fun e u' w' => e = .returned (.tuple #[]) ∧ u' = .returning ∧ w = w' := by
  have hn := neq_nil
  refine callsD_of_wpS Try.func18 rfl fun c₀ cs hu => ?_
  apply wpS_seq
  apply wpS_region
  simp [wpOpsS, go_sem, recoverD, hu, Try.ntmps18, Exit.thenS]
  refine wpS_of_wp ?_
  go_wp2
  cases c₀
  simp_all [bodyPostS, results, Try.results18]
end Go.Proofs.Ytibngfpjdookkaa
