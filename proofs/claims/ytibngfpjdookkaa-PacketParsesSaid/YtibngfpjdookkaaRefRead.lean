/- The contracts of the document's own Text and Num. -/
import Derived.Test.YtibngfpjdookkaaOnceB
import Derived.Test.YtibngfpjdookkaaRefGet
import Derived.Test.YtibngfpjdookkaaRefPut
set_option linter.unusedVariables false
set_option linter.unusedSimpArgs false
namespace Go.Proofs.Ytibngfpjdookkaa
open Go.RowKit

theorem refText_yes (s : ByteArray) (a m : Nat) (n : Int) (w : World) (hs : s.size ≤ 1099511627776) (hp : pos n = m) (hm : a + m ≤ s.size) :
    Calls Try.prog 79 #[.string s, .int .i64 a, .int .i64 n] w fun e w' => e = .returned (.tuple #[.string (s.extract a (a + m)), .int .i64 ((a + m : Nat) : Int), .bool true]) ∧ w = w' := by
  by_cases h0 : n < 0
  · have hm0 : m = 0 := by unfold pos at hp; rw [if_pos h0] at hp; omega
    subst hm0
    clear hp
    go_enter Try.func79, Try.ntmps79
    go_wp2
    go_ret3
    exact ⟨by rw [show s.extract a (a + 0) = ByteArray.empty by simp]; rfl, rfl⟩
  · have hnm : n = m := by unfold pos at hp; rw [if_neg h0] at hp; omega
    subst hnm
    clear hp
    go_enter Try.func79, Try.ntmps79
    go_wp2
    go_ret3
    exact ⟨rfl, rfl⟩

theorem refText_no (s : ByteArray) (a : Nat) (n : Int) (w : World) (hs : s.size ≤ 1099511627776) (ha : a ≤ s.size) (hm : (s.size : Int) - a < pos n) :
    Calls Try.prog 79 #[.string s, .int .i64 a, .int .i64 n] w fun e w' => e = .returned (.tuple #[.string ⟨#[]⟩, .int .i64 a, .bool false]) ∧ w = w' := by
  have hp : (s.size : Int) - a < n ∧ 0 ≤ n := by unfold pos at hm; split at hm <;> omega
  obtain ⟨hp1, hp2⟩ := hp
  clear hm
  go_enter Try.func79, Try.ntmps79
  go_wp2
  go_ret3
  exact ⟨rfl, rfl⟩

/-- All of a short string, as a number. -/
theorem refGet_whole (S : ByteArray) (w : World) (h8 : S.size ≤ 8) :
    Calls Try.prog 52 #[.string S, .int .i64 0, .int .i64 S.size] w fun e w' => (∃ ok : Bool, e = .returned (.tuple #[.int .u64 (be S.data.toList), .bool ok])) ∧ w = w' := by
  have hmx : S.size ≤ maxLen := by unfold maxLen; omega
  by_cases h0 : S.size = 0
  · have hS0 : be S.data.toList = 0 := by
      rw [List.eq_nil_of_length_eq_zero (show S.data.toList.length = 0 by rw [Array.length_toList]; exact h0)]; rfl
    rw [hS0]
    refine (refGet_no S 0 S.size w hmx (by decide) (by decide) (by omega) (by omega) (.inl (by omega))).mono ?_
    rintro e w' ⟨rfl, rfl⟩
    exact ⟨⟨false, rfl⟩, rfl⟩
  · have e1 : S.data.toList = (S.data.toList.drop 0).take S.size := by
      rw [List.drop_zero]; exact (List.take_of_length_le (by rw [Array.length_toList]; exact Nat.le_refl _)).symm
    refine (refGet_yes S 0 S.size w hmx (by omega) h8 (by omega)).mono ?_
    rintro e w' ⟨rfl, rfl⟩
    exact ⟨⟨true, by rw [← e1]⟩, rfl⟩

theorem refGet_len (S : ByteArray) (k : Int) (w : World) (hk : k = S.size) (h8 : S.size ≤ 8) :
    Calls Try.prog 52 #[.string S, .int .i64 0, .int .i64 k] w fun e w' => (∃ ok : Bool, e = .returned (.tuple #[.int .u64 (be S.data.toList), .bool ok])) ∧ w = w' := by
  subst hk
  exact refGet_whole S w h8

end Go.Proofs.Ytibngfpjdookkaa
