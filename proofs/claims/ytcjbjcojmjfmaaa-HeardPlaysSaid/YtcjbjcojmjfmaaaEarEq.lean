/- Structs that are held against each other. -/
import Derived.Test.YtcjbjcojmjfmaaaEarEpoch
import Derived.Laws.StructEq
set_option linter.unusedVariables false
set_option linter.unusedSimpArgs false
namespace Go.Proofs.Ytcjbjcojmjfmaaa
open Go.RowKit Go.Sort

theorem held_conf : Try.prog.stoodInHeld 25 = false := by kernel_rfl
theorem held_beat : Try.prog.stoodInHeld 33 = false := by kernel_rfl
theorem guard_conf : Try.prog.eqGuardType Try.prog.depth 25 = false := by kernel_rfl
theorem guard_beat : Try.prog.eqGuardType Try.prog.depth 33 = false := by kernel_rfl
theorem eq_conf (k : Nat) (a b c d : Int) (w : World) : (Op.equalIn (k + 2) 25 (.agg #[.int .u64 a, .int .i64 b]) (.agg #[.int .u64 c, .int .i64 d])).run Try.prog w = .ok (decide (a = c) && decide (b = d)) w := by
  have hp := held_conf
  by_cases h : a = c
  · by_cases h' : b = d
    · subst h h'
      go_simp
    · subst h
      have e : (b == d) = false := by simpa using h'
      go_simp
  · have e : (a == c) = false := by simpa using h
    go_simp
theorem eq_beat (k : Nat) (a b c d e a' b' c' d' e' : Int) (w : World) : (Op.equalIn (k + 3) 33 (.agg #[.int .u64 a, .int .i64 b, .int .u64 c, .int .i64 d, .int .u64 e]) (.agg #[.int .u64 a', .int .i64 b', .int .u64 c', .int .i64 d', .int .u64 e'])).run Try.prog w =
    .ok (decide (a = a') && decide (b = b') && (decide (c = c') && decide (d = d')) && decide (e = e')) w := by
  have hp := held_beat
  have hq := held_conf
  by_cases ha : a = a'
  case neg =>
    have q : (a == a') = false := by simpa using ha
    go_simp
  case pos =>
    subst ha
    by_cases hb : b = b'
    case neg =>
      have q : (b == b') = false := by simpa using hb
      go_simp
    case pos =>
      subst hb
      by_cases hc : c = c'
      case neg =>
        have q : (c == c') = false := by simpa using hc
        go_simp
      case pos =>
        subst hc
        by_cases hd : d = d'
        case neg =>
          have q : (d == d') = false := by simpa using hd
          go_simp
        case pos =>
          subst hd
          by_cases he : e = e'
          case neg =>
            have q : (e == e') = false := by simpa using he
            go_simp
          case pos =>
            subst he
            go_simp
/-- Are two beats the same? -/
def sameB (x y : Bt) : Bool := decide (x = y)
theorem sameB_iff (x y : Bt) : sameB x y = true ↔ x = y := by unfold sameB; simp
theorem sameB_eq (x y : Bt) : (decide ((x.ce : Int) = y.ce) && decide (x.cr = y.cr) && (decide ((x.pe : Int) = y.pe) && decide (x.pr = y.pr)) && decide ((x.ep : Int) = y.ep)) = sameB x y := by
  rw [Bool.eq_iff_iff, sameB_iff]
  obtain ⟨a, b, c, d, e⟩ := x
  obtain ⟨a', b', c', d', e'⟩ := y
  simp only [Bool.and_eq_true, decide_eq_true_eq, Bt.mk.injEq]
  omega
theorem neq_beat (x y : Bt) (w : World) : (binOp .neq 33 (.agg #[.int .u64 (x.ce : Int), .int .i64 x.cr, .int .u64 (x.pe : Int), .int .i64 x.pr, .int .u64 (x.ep : Int)]) (.agg #[.int .u64 (y.ce : Int), .int .i64 y.cr, .int .u64 (y.pe : Int), .int .i64 y.pr, .int .u64 (y.ep : Int)])).run Try.prog w = .ok (.bool (!sameB x y)) w := by
  rw [run_neq_struct, eq_beat 9997, sameB_eq]
  rfl
theorem neq_conf (a b c d : Int) (w : World) : (binOp .neq 25 (.agg #[.int .u64 a, .int .i64 b]) (.agg #[.int .u64 c, .int .i64 d])).run Try.prog w = .ok (.bool (!(decide (a = c) && decide (b = d)))) w := by
  rw [run_neq_struct, eq_conf 9998]
  rfl
end Go.Proofs.Ytcjbjcojmjfmaaa
