/- Layer 19: Print and PrintItem: what answer makes of the closures. -/
import Derived.Test.YtblefbjmjhgkkaaLgPrint
set_option linter.unusedVariables false
set_option maxRecDepth 100000
set_option linter.unusedSimpArgs false
namespace Go.Proofs.Ytblefbjmjhgkkaa
open Go.RowKit Go.Sort

/-- What is handed out of what was put: it, or nothing, where something is wrong. -/
def strOf (c : Nat) (put : List UInt8) : ByteArray := if c = 0 then ⟨put.toArray⟩ else { data := #[] }
theorem strOf_yes {c : Nat} {put : List UInt8} (h : c = 0) : strOf c put = ⟨put.toArray⟩ := if_pos h
theorem strOf_no {c : Nat} {put : List UInt8} (h : c ≠ 0) : strOf c put = { data := #[] } := if_neg h
theorem results_tc {fn : Func} {p u : Tmp} (h : fn.results = #[.tmp p, .cell u 34]) (tmps : Array Value) {W : World} {g1 : Nat} {c : Int}
    (hu : tmps.getD u undef = .pointer (some ⟨g1, 0, none⟩)) (h1 : W.cell? ⟨g1, 0, none⟩ = some (.int .i64 c)) :
    (results fn tmps).run Try.prog W = .ok (.tuple #[tmps.getD p undef, .int .i64 c]) W := by
  have hu' : tmps[u]?.getD undef = .pointer (some ⟨g1, 0, none⟩) := by simpa using hu
  simp [results, h, hu', asAddr, Result.andThen, loadVar, go_sem, h1]

set_option maxHeartbeats 4000000 in
theorem answerTS (g0 : Nat) (w : World) (x : Stb) (a : Option Addr) (k c : Nat) (hc : Own w g0 33 (encS x a k c).toArray) (hx : RcIn w ⟨x.r, a, k, c⟩) (hep : x.ep < 18446744073709551616) (hinc : x.inc < 4294967296) (hxk : k ≤ 1099511627776) :
    Calls Try.prog 34 #[.func (.func 35) #[] #[.pointer (some ⟨g0, 0, none⟩)]] w fun e w' => e = .returned (.tuple #[.string (strOf (errRec x.r) (putS x)), .int .i64 ((errRec x.r : Nat) : Int)]) ∧ Below w.heap.size w w' := by
  have hmf : ∀ (fn : Fn) (first cap : Array Value) (w : World), (Instr.makeFunc fn first cap).run Try.prog w = .ok (.func fn first cap) w := fun _ _ _ _ => rfl
  have E1 := Own.new w 34 #[.int .i64 0]
  have G1 := (Grw.refl w).alloc (.cells #[.int .i64 0] 34)
  have hlt := hc.lt
  have P := print1S g0 _ x a k c (hc.below G1.below hc.lt) (hx.below G1.below) hep hinc hxk
  have B1 := G1.below
  generalize errRec x.r = cd at *
  generalize putS x = pt at *
  clear G1 hc hx
  go_enter_defers Try.func34, Try.ntmps34
  go_wp2_with fail
  refine P.mono ?_
  rintro e w3 ⟨hb, ⟨h0, rfl⟩ | ⟨h0, rfl⟩⟩
  rotate_left
  · have E3 := E1.below hb E1.lt
    have B3 := B1.trans (hb.mono B1.size)
    refine leaves_cons (f := 55) (args := #[.pointer (some ⟨w.heap.size, 0, none⟩)]) (by simp) (by simp [go_sem]) ?_
    refine (acatchT w.heap.size (cd : Int) w3 _ E3).mono ?_
    rintro e u' w'' ⟨rfl, rfl, rfl⟩
    exact ⟨_, results_tc rfl _ rfl ((E3.set 0 _).at_ 0 _ rfl), by rw [strOf_no h0]; rfl, B3.setCell (Nat.le_refl _) _⟩
  have E3 := E1.below hb E1.lt
  have B3 := B1.trans (hb.mono B1.size)
  have c1 : w3.cell? ⟨w.heap.size, 0, none⟩ = some (.int .i64 0) := E3.at_ 0 _ rfl
  have f1 := E3.free 0
  have H0 := Lib.hid h0
  clear P E1 B1 hb h0
  go_wp2
  refine leaves_cons (f := 55) (args := #[.pointer (some ⟨w.heap.size, 0, none⟩)]) (by simp) (by simp [go_sem]) ?_
  refine (aidleT _ _).mono ?_
  rintro e u' w'' ⟨rfl, rfl, rfl⟩
  exact ⟨_, results_tc rfl _ rfl ((E3.set 0 _).at_ 0 _ rfl), by rw [strOf_yes H0.out, H0.out]; rfl, B3.setCell (Nat.le_refl _) _⟩
set_option maxHeartbeats 4000000 in
theorem lprintS (w : World) (x : Stb) (a : Option Addr) (k c : Nat) (hx : RcIn w ⟨x.r, a, k, c⟩) (hep : x.ep < 18446744073709551616) (hinc : x.inc < 4294967296) (hxk : k ≤ 1099511627776) :
    Calls Try.prog 15 #[.agg (encS x a k c).toArray] w fun e w' => e = .returned (.tuple #[.string (strOf (errRec x.r) (putS x)), .int .i64 ((errRec x.r : Nat) : Int)]) ∧ Below w.heap.size w w' := by
  have hmf : ∀ (fn : Fn) (first cap : Array Value) (w : World), (Instr.makeFunc fn first cap).run Try.prog w = .ok (.func fn first cap) w := fun _ _ _ _ => rfl
  have S1 : Own (w.alloc (.cells (encS x a k c).toArray 33)) w.heap.size 33 (encS x a k c).toArray := Own.new _ _ _
  have G1 := (Grw.refl w).alloc (.cells (encS x a k c).toArray 33)
  have P := answerTS w.heap.size _ x a k c S1 (hx.below G1.below) hep hinc hxk
  have B1 := G1.below
  generalize errRec x.r = cd at *
  generalize putS x = pt at *
  generalize strOf cd pt = st at *
  clear G1 hx S1
  go_enter Try.func15, Try.ntmps15
  go_wp2_with fail
  refine P.mono ?_
  rintro e w3 ⟨rfl, hb⟩
  have B3 := Lib.hid (B1.trans (hb.mono B1.size))
  clear P B1 hb
  go_wp2
  go_ret2
  exact ⟨rfl, B3.out⟩

set_option maxHeartbeats 4000000 in
theorem answerTI (g0 : Nat) (w : World) (x : Itm) (T : ByteArray) (a : Option Addr) (k c : Nat) (hc : Own w g0 43 (encI x T a k c).toArray) (hT : T.data.toList = x.data) (hTs : T.size ≤ 1000000) (hok : x.ok) (hx : RcIn w ⟨x.r, a, k, c⟩) (hxk : k ≤ 1099511627776) :
    Calls Try.prog 34 #[.func (.func 38) #[] #[.pointer (some ⟨g0, 0, none⟩)]] w fun e w' => e = .returned (.tuple #[.string (strOf (codeI x) (putI x)), .int .i64 ((codeI x : Nat) : Int)]) ∧ Below w.heap.size w w' := by
  have hmf : ∀ (fn : Fn) (first cap : Array Value) (w : World), (Instr.makeFunc fn first cap).run Try.prog w = .ok (.func fn first cap) w := fun _ _ _ _ => rfl
  have E1 := Own.new w 34 #[.int .i64 0]
  have G1 := (Grw.refl w).alloc (.cells #[.int .i64 0] 34)
  have hlt := hc.lt
  have P := print1I g0 _ x T a k c (hc.below G1.below hc.lt) hT hTs hok (hx.below G1.below) hxk
  have B1 := G1.below
  generalize codeI x = cd at *
  generalize putI x = pt at *
  clear G1 hc hx
  go_enter_defers Try.func34, Try.ntmps34
  go_wp2_with fail
  refine P.mono ?_
  rintro e w3 ⟨hb, ⟨h0, rfl⟩ | ⟨h0, rfl⟩⟩
  rotate_left
  · have E3 := E1.below hb E1.lt
    have B3 := B1.trans (hb.mono B1.size)
    refine leaves_cons (f := 55) (args := #[.pointer (some ⟨w.heap.size, 0, none⟩)]) (by simp) (by simp [go_sem]) ?_
    refine (acatchT w.heap.size (cd : Int) w3 _ E3).mono ?_
    rintro e u' w'' ⟨rfl, rfl, rfl⟩
    exact ⟨_, results_tc rfl _ rfl ((E3.set 0 _).at_ 0 _ rfl), by rw [strOf_no h0]; rfl, B3.setCell (Nat.le_refl _) _⟩
  have E3 := E1.below hb E1.lt
  have B3 := B1.trans (hb.mono B1.size)
  have c1 : w3.cell? ⟨w.heap.size, 0, none⟩ = some (.int .i64 0) := E3.at_ 0 _ rfl
  have f1 := E3.free 0
  have H0 := Lib.hid h0
  clear P E1 B1 hb h0
  go_wp2
  refine leaves_cons (f := 55) (args := #[.pointer (some ⟨w.heap.size, 0, none⟩)]) (by simp) (by simp [go_sem]) ?_
  refine (aidleT _ _).mono ?_
  rintro e u' w'' ⟨rfl, rfl, rfl⟩
  exact ⟨_, results_tc rfl _ rfl ((E3.set 0 _).at_ 0 _ rfl), by rw [strOf_yes H0.out, H0.out]; rfl, B3.setCell (Nat.le_refl _) _⟩
set_option maxHeartbeats 4000000 in
theorem lprintI (w : World) (x : Itm) (T : ByteArray) (a : Option Addr) (k c : Nat) (hT : T.data.toList = x.data) (hTs : T.size ≤ 1000000) (hok : x.ok) (hx : RcIn w ⟨x.r, a, k, c⟩) (hxk : k ≤ 1099511627776) :
    Calls Try.prog 16 #[.agg (encI x T a k c).toArray] w fun e w' => e = .returned (.tuple #[.string (strOf (codeI x) (putI x)), .int .i64 ((codeI x : Nat) : Int)]) ∧ Below w.heap.size w w' := by
  have hmf : ∀ (fn : Fn) (first cap : Array Value) (w : World), (Instr.makeFunc fn first cap).run Try.prog w = .ok (.func fn first cap) w := fun _ _ _ _ => rfl
  have S1 : Own (w.alloc (.cells (encI x T a k c).toArray 43)) w.heap.size 43 (encI x T a k c).toArray := Own.new _ _ _
  have G1 := (Grw.refl w).alloc (.cells (encI x T a k c).toArray 43)
  have P := answerTI w.heap.size _ x T a k c S1 hT hTs hok (hx.below G1.below) hxk
  have B1 := G1.below
  generalize codeI x = cd at *
  generalize putI x = pt at *
  generalize strOf cd pt = st at *
  clear G1 hx S1
  go_enter Try.func16, Try.ntmps16
  go_wp2_with fail
  refine P.mono ?_
  rintro e w3 ⟨rfl, hb⟩
  have B3 := Lib.hid (B1.trans (hb.mono B1.size))
  clear P B1 hb
  go_wp2
  go_ret2
  exact ⟨rfl, B3.out⟩
end Go.Proofs.Ytblefbjmjhgkkaa
