/- New, Read, Slot, Copy; Write and Tear of any text: the program's. -/
import Derived.Test.YtimdemidnleiiaaDiskTear
set_option linter.unusedVariables false
set_option linter.unusedSimpArgs false
namespace Go.Proofs.Ytimdemidnleiiaa
open Go.RowKit Go.Sort

theorem dwrite {w : World} {g : Nat} {d : Dk} (h : DkAt w g d) (s : ByteArray) (hsz : s.size ≤ maxLen) :
    Calls Try.prog 17 #[.pointer (some ⟨g, 0, none⟩), .string s] w fun e w' => e = .returned (.int .i64 (codeD s)) ∧ DkAt w' g (writeD d s) ∧ w.grownBy w' (some g) := by
  by_cases hs : s.size ≤ 8192
  · have hc : codeD s = 0 := by unfold codeD; rw [if_pos hs]
    have hd : writeD d s = slotD2 d (bytesS (nextN d) s) := by unfold writeD; rw [if_pos hs]
    have hok := step_ok h.ok ⟨s, false, 0⟩
    rw [show stepD d ⟨s, false, 0⟩ = writeD d s from rfl] at hok
    rw [hc]
    obtain ⟨a, b⟩ := d
    cases hn : nextB ⟨a, b⟩
    · refine (dwrite_0 a b h.ok s hs (by unfold nextI; rw [hn]; rfl) g w h.own).mono ?_
      rintro e w' ⟨h1, h2, h3⟩
      refine ⟨h1, ⟨?_, hok⟩, h3⟩
      rw [hd]
      unfold slotD2
      rw [hn, if_neg (by decide)]
      exact h2
    · refine (dwrite_1 a b h.ok s hs (by unfold nextI; rw [hn]; rfl) g w h.own).mono ?_
      rintro e w' ⟨h1, h2, h3⟩
      refine ⟨h1, ⟨?_, hok⟩, h3⟩
      rw [hd]
      unfold slotD2
      rw [hn, if_pos rfl]
      exact h2
  · have hc : codeD s = 3 := by unfold codeD; rw [if_neg hs]
    rw [hc, write_long hs]
    have ht : (8192 : Int) < (s.size : Int) := by omega
    have HH := Lib.hid h
    unfold maxLen at hsz
    clear h hs hc
    go_enter Try.func17, Try.ntmps17
    go_wp2
    go_ret
    exact ⟨rfl, HH.out, World.grownBy.refl _ _⟩
theorem dtear {w : World} {g : Nat} {d : Dk} (h : DkAt w g d) (s : ByteArray) (keep : Int) (hsz : s.size ≤ maxLen) :
    Calls Try.prog 18 #[.pointer (some ⟨g, 0, none⟩), .string s, .int .i64 keep] w fun e w' => e = .returned (.int .i64 (codeD s)) ∧ DkAt w' g (tearD d s keep) ∧ w.grownBy w' (some g) := by
  by_cases hs : s.size ≤ 8192
  · have hc : codeD s = 0 := by unfold codeD; rw [if_pos hs]
    have hd : tearD d s keep = slotD2 d (tornS (bytesS (nextN d) s) keep) := by unfold tearD; rw [if_pos hs]
    have hok := step_ok h.ok ⟨s, true, keep⟩
    rw [show stepD d ⟨s, true, keep⟩ = tearD d s keep from rfl] at hok
    rw [hc]
    obtain ⟨a, b⟩ := d
    cases hn : nextB ⟨a, b⟩
    · refine (dtear_0 a b h.ok s keep hs (by unfold nextI; rw [hn]; rfl) g w h.own).mono ?_
      rintro e w' ⟨h1, h2, h3⟩
      refine ⟨h1, ⟨?_, hok⟩, h3⟩
      rw [hd]
      unfold slotD2
      rw [hn, if_neg (by decide)]
      exact h2
    · refine (dtear_1 a b h.ok s keep hs (by unfold nextI; rw [hn]; rfl) g w h.own).mono ?_
      rintro e w' ⟨h1, h2, h3⟩
      refine ⟨h1, ⟨?_, hok⟩, h3⟩
      rw [hd]
      unfold slotD2
      rw [hn, if_pos rfl]
      exact h2
  · have hc : codeD s = 3 := by unfold codeD; rw [if_neg hs]
    rw [hc, tear_long hs]
    have ht : (8192 : Int) < (s.size : Int) := by omega
    have HH := Lib.hid h
    unfold maxLen at hsz
    clear h hs hc
    go_enter Try.func18, Try.ntmps18
    go_wp2
    go_ret
    exact ⟨rfl, HH.out, World.grownBy.refl _ _⟩
theorem dread {w : World} {g : Nat} {d : Dk} (h : DkAt w g d) :
    Calls Try.prog 13 #[.pointer (some ⟨g, 0, none⟩)] w fun e w' => e = .returned (.tuple #[.string (recD d), .bool (fndB d)]) ∧ Below w.heap.size w w' := by
  have hn := fun W => dnewest d h.ok W
  have HO := Lib.hid h.own
  clear h
  generalize atD d = p at *
  generalize numD d = n at *
  generalize recD d = t at *
  generalize fndB d = f at *
  go_enter Try.func13, Try.ntmps13
  go_wp2_with (first | (refine load_slots rfl (.tmp 10) rfl g 46 rfl HO.out ?_) | (go_at_call 20; refine (hn _).mono ?_; rintro e w1 ⟨rfl, L1⟩))
  go_ret2
  exact ⟨rfl, L1.trans (((Grw.refl w1).alloc _).below.mono L1.size)⟩
def slotD (d : Dk) (i : Int) : ByteArray := if i = 0 then d.a else if i = 1 then d.b else { data := #[] }
theorem dslot {w : World} {g : Nat} {d : Dk} (h : DkAt w g d) (i : Int) (h0 : -9223372036854775808 ≤ i) (h1 : i ≤ 9223372036854775807) :
    Calls Try.prog 15 #[.pointer (some ⟨g, 0, none⟩), .int .i64 i] w fun e w' => e = .returned (.string (slotD d i)) ∧ w = w' := by
  have c0 := h.own.at_ 0 _ rfl
  have c1 := h.own.at_ 1 _ rfl
  by_cases e0 : i = 0
  · subst e0
    have hs : slotD d 0 = d.a := rfl
    rw [hs]
    clear h hs
    go_enter Try.func15, Try.ntmps15
    go_wp2
    go_ret
    exact ⟨rfl, rfl⟩
  by_cases e1 : i = 1
  · subst e1
    have hs : slotD d 1 = d.b := rfl
    rw [hs]
    clear h hs
    go_enter Try.func15, Try.ntmps15
    go_wp2
    go_ret
    exact ⟨rfl, rfl⟩
  have hs : slotD d i = { data := #[] } := by unfold slotD; rw [if_neg e0, if_neg e1]
  rw [hs]
  clear h hs
  by_cases e2 : i < 0
  · go_enter Try.func15, Try.ntmps15
    go_wp2
    go_ret
    exact ⟨rfl, rfl⟩
  · have e3 : 2 ≤ i := by omega
    go_enter Try.func15, Try.ntmps15
    go_wp2
    go_ret
    exact ⟨rfl, rfl⟩
def newD0 : Dk := ⟨{ data := #[] }, { data := #[] }⟩
theorem dnew (w : World) : Calls Try.prog 9 #[] w fun e w' => e = .returned (.pointer (some ⟨w.heap.size, 0, none⟩)) ∧ DkAt w' w.heap.size newD0 ∧ Below w.heap.size w w' := by
  go_enter Try.func9, Try.ntmps9
  go_wp2
  go_ret
  exact ⟨rfl, ⟨Own.new w _ _, ⟨by decide, by decide⟩⟩, ((Grw.refl w).alloc _).below⟩
theorem build_disk (a b : ByteArray) (w : World) : (Instr.build 46 #[(0, .agg #[.string a, .string b])]).run Try.prog w = .ok (.agg #[.string a, .string b]) w := by kernel_rfl
theorem dcopy {w : World} {g : Nat} {d : Dk} (h : DkAt w g d) :
    Calls Try.prog 16 #[.pointer (some ⟨g, 0, none⟩)] w fun e w' => e = .returned (.pointer (some ⟨w.heap.size, 0, none⟩)) ∧ DkAt w' w.heap.size d ∧ Below w.heap.size w w' := by
  have HO := Lib.hid h.own
  have HK := Lib.hid h.ok
  have hb := build_disk d.a d.b
  clear h
  go_enter Try.func16, Try.ntmps16
  go_wp2_with (refine load_slots rfl (.tmp 5) rfl g 46 rfl HO.out ?_)
  go_ret
  exact ⟨rfl, ⟨Own.new w _ _, HK.out⟩, ((Grw.refl w).alloc _).below⟩
end Go.Proofs.Ytimdemidnleiiaa
