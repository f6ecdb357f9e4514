/- The contracts of a reader where bytes lack: it panics, and stands where it stood. -/
import Derived.Test.YtblefbjmjhgkkaaZClone
import Derived.WalkSmall
import Derived.WalkLawsBesides
set_option linter.unusedVariables false
set_option maxRecDepth 100000
set_option linter.unusedSimpArgs false
namespace Go.Proofs.Ytblefbjmjhgkkaa
open Go.RowKit

/-- 'panic(api.ErrShort)', as it leaves a call. -/
def short : List PanicEntry := [{ v := .iface 34 (.int .i64 2), recovered := false }]

theorem pass_no (w : World) (b : Nat) (s : ByteArray) (a : Nat) (m : Int) (h : Rd w b s a) (hm : (s.size : Int) - a < m) (hm2 : m ≤ 9223372036854775807) :
    Calls Try.prog 63 #[.pointer (some ⟨b, 0, none⟩), .int .i64 m] w fun e w' => e = .panicked short ∧ ∃ i, w' = w.drewN i := by
  go_enter Try.func63, Try.ntmps63
  go_wp2_with fail
  refine (left_any _ _ _ _ h).mono ?_
  rintro e w' ⟨rfl, n, rfl⟩
  go_wp2
  exact ⟨rfl, rfl, _, rfl⟩
theorem num_no (w : World) (b : Nat) (s : ByteArray) (a : Nat) (n : Int) (h : Rd w b s a) (hm : (s.size : Int) - a < wid n) :
    Calls Try.prog 45 #[.pointer (some ⟨b, 0, none⟩), .int .i64 n] w fun e w' => e = .panicked short ∧ ∃ i, w' = w.drewN i := by
  have hb := wid_bd n
  go_enter Try.func45, Try.ntmps45
  go_wp2_with fail
  refine (width_any _ _).mono ?_
  rintro e w' ⟨rfl, rfl⟩
  go_wp2_with fail
  refine (pass_no _ _ _ _ _ h hm (by omega)).mono ?_
  rintro e w1 ⟨rfl, i, rfl⟩
  exact ⟨rfl, rfl, i, rfl⟩

/-- How many bytes a text of n counts as. -/
def pos (n : Int) : Int := if n < 0 then 0 else n
theorem pos_bd (n : Int) : 0 ≤ pos n ∧ n ≤ pos n := by unfold pos; split <;> omega

theorem pass_int (w : World) (b : Nat) (s : ByteArray) (a m : Nat) (k : Int) (h : Rd w b s a) (hk : k = m) (hm : a + m ≤ s.size) :
    Calls Try.prog 63 #[.pointer (some ⟨b, 0, none⟩), .int .i64 k] w fun e w' => e = .returned (.string (s.extract a (a + m))) ∧ Rd w' b s (a + m) ∧ w.grownBy w' (some b) := by
  subst hk
  exact pass_rd w b s a m h hm

theorem Rd.after {w w' : World} {b : Nat} {s : ByteArray} {a : Nat} (h : Rd w b s a) (hb : Below w.heap.size w w') : Rd w' b s a :=
  h.below hb (World.block_lt_of_cell? _ _ h.text)
theorem grown_below {a w w' : World} {row : Option Nat} (h : a.grownBy w row) (hb : Below w.heap.size w w') : a.grownBy w' row :=
  ⟨hb.os.trans h.os, hb.tape.trans h.tape, hb.output.trans h.output, Nat.le_trans h.size hb.size, fun k hk hn => (hb.block k (Nat.lt_of_lt_of_le hk h.size)).trans (h.block k hk hn)⟩

theorem text_yes (w : World) (b : Nat) (s : ByteArray) (a m : Nat) (n : Int) (h : Rd w b s a) (hp : pos n = m) (hm : a + m ≤ s.size) (hs : s.size ≤ 1099511627776) :
    Calls Try.prog 66 #[.pointer (some ⟨b, 0, none⟩), .int .i64 n] w fun e w' => e = .returned (.string (s.extract a (a + m))) ∧ Rd w' b s (a + m) ∧ w.grownBy w' (some b) := by
  have HP := Lib.hid hp
  clear hp
  by_cases h0 : n < 0
  all_goals
    have HE := Lib.hid (show pos n = if n < 0 then 0 else n from rfl)
    go_enter Try.func66, Try.ntmps66
    go_wp2_with fail
    refine (pass_int _ _ _ _ m _ h ?_ hm).mono ?_
    · rw [← HP.out, HE.out]; first | rw [if_pos h0] | rw [if_neg (by omega)]
    rintro e w1 ⟨rfl, hr, hg⟩
    go_wp2_with fail
    refine (clone_any _ _ (by simp; omega)).mono ?_
    rintro e w2 ⟨rfl, hb⟩
    go_wp2
    go_ret
    exact ⟨rfl, hr.after hb, grown_below hg hb⟩

theorem text_no (w : World) (b : Nat) (s : ByteArray) (a : Nat) (n : Int) (h : Rd w b s a) (hn : n ≤ 9223372036854775807) (hm : (s.size : Int) - a < pos n) :
    Calls Try.prog 66 #[.pointer (some ⟨b, 0, none⟩), .int .i64 n] w fun e w' => e = .panicked short ∧ ∃ i, w' = w.drewN i := by
  have hp : (s.size : Int) - a < n ∧ 0 ≤ n := by
    have := h.in_
    unfold pos at hm; split at hm <;> omega
  clear hm
  obtain ⟨hp1, hp2⟩ := hp
  go_enter Try.func66, Try.ntmps66
  go_wp2_with fail
  refine (pass_no _ _ _ _ _ h hp1 hn).mono ?_
  rintro e w1 ⟨rfl, i, rfl⟩
  exact ⟨rfl, rfl, i, rfl⟩
end Go.Proofs.Ytblefbjmjhgkkaa
