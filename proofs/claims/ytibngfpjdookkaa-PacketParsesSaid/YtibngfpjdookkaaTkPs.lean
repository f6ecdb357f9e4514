import Derived.Test.YtibngfpjdookkaaTkFs
import Derived.Test.YtibngfpjdookkaaRefClean
import Derived.Test.YtibngfpjdookkaaRefParse
import Derived.Test.YtibngfpjdookkaaPkParse
import Derived.Test.YtibngfpjdookkaaPkAwake
/- The document's Parse. (Written by wip/gen_tkparse.py.) -/
set_option linter.unusedVariables false
set_option linter.unusedSimpArgs false
namespace Go.Proofs.Ytibngfpjdookkaa
open Go.RowKit Go.Sort

theorem tfield {w : World} {b : Nat} {s : ByteArray} {a : Nat} (f : Fd) (h : Tk w b s a 0) (ha : a ≤ 562949953421312) (hs : s.size ≤ 1099511627776) (B : Nat) (p : Pk) (T : ByteArray) (vd vg vx : Vc) (hO : OwnPk B w p T vd vg vx) (hB : b < B) (hBw : B ≤ w.heap.size) (hl : p.x = [] ∧ vx = Vc.nil) :
    Calls Try.prog 26 #[.pointer (some ⟨b, 0, none⟩), .int .u8 (fdB f : Nat), .agg (encP p T vd vg vx).toArray] w (FieldPost f p vx B w b s a) := by
  cases f
  case c => exact tfield_c h ha hs B p T vd vg vx hO hB hBw
  case m =>
    by_cases hk : p.kind = 9
    · exact tfield_m_9 h ha hs B p T vd vg vx hO hB hBw hk
    · exact tfield_m_o h ha hs B p T vd vg vx hO hB hBw hk
  case s => exact tfield_s h ha hs B p T vd vg vx hO hB hBw
  case n => exact tfield_n h ha hs B p T vd vg vx hO hB hBw
  case g => exact tfield_g h ha hs B p T vd vg vx hO hB hBw
  case h => exact tfield_h h ha hs B p T vd vg vx hO hB hBw
  case w => exact tfield_w h ha hs B p T vd vg vx hO hB hBw
  case q => exact tfield_q h ha hs B p T vd vg vx hO hB hBw
  case p => exact tfield_p h ha hs B p T vd vg vx hO hB hBw
  case e => exact tfield_e h ha hs B p T vd vg vx hO hB hBw
  case b => exact tfield_b h ha hs B p T vd vg vx hO hB hBw
  case x => exact tfield_x h ha hs B p T vd vg vx hO hB hBw
  case l => exact tfield_l h ha hs B p T vd vg vx hO hB hBw hl.1 hl.2
theorem rowS_size : ∀ k, (rowS k).size = (rowF k).length
  | 0 => rfl
  | 1 => rfl
  | 2 => rfl
  | 3 => rfl
  | 4 => rfl
  | 5 => rfl
  | 6 => rfl
  | 7 => rfl
  | 8 => rfl
  | 9 => rfl
  | 10 => rfl
  | 11 => rfl
  | k + 12 => rfl
theorem rowS_1_0 (w : World) : (Instr.index 9 (.string (rowS 1)) (.int .i64 ((0 : Nat) : Int))).run Try.prog w = .ok (.int .u8 ((fdB .c : Nat) : Int)) w := by kernel_rfl
theorem rowS_1_1 (w : World) : (Instr.index 9 (.string (rowS 1)) (.int .i64 ((1 : Nat) : Int))).run Try.prog w = .ok (.int .u8 ((fdB .m : Nat) : Int)) w := by kernel_rfl
theorem rowS_2_0 (w : World) : (Instr.index 9 (.string (rowS 2)) (.int .i64 ((0 : Nat) : Int))).run Try.prog w = .ok (.int .u8 ((fdB .c : Nat) : Int)) w := by kernel_rfl
theorem rowS_2_1 (w : World) : (Instr.index 9 (.string (rowS 2)) (.int .i64 ((1 : Nat) : Int))).run Try.prog w = .ok (.int .u8 ((fdB .s : Nat) : Int)) w := by kernel_rfl
theorem rowS_2_2 (w : World) : (Instr.index 9 (.string (rowS 2)) (.int .i64 ((2 : Nat) : Int))).run Try.prog w = .ok (.int .u8 ((fdB .n : Nat) : Int)) w := by kernel_rfl
theorem rowS_2_3 (w : World) : (Instr.index 9 (.string (rowS 2)) (.int .i64 ((3 : Nat) : Int))).run Try.prog w = .ok (.int .u8 ((fdB .g : Nat) : Int)) w := by kernel_rfl
theorem rowS_2_4 (w : World) : (Instr.index 9 (.string (rowS 2)) (.int .i64 ((4 : Nat) : Int))).run Try.prog w = .ok (.int .u8 ((fdB .h : Nat) : Int)) w := by kernel_rfl
theorem rowS_3_0 (w : World) : (Instr.index 9 (.string (rowS 3)) (.int .i64 ((0 : Nat) : Int))).run Try.prog w = .ok (.int .u8 ((fdB .c : Nat) : Int)) w := by kernel_rfl
theorem rowS_3_1 (w : World) : (Instr.index 9 (.string (rowS 3)) (.int .i64 ((1 : Nat) : Int))).run Try.prog w = .ok (.int .u8 ((fdB .w : Nat) : Int)) w := by kernel_rfl
theorem rowS_3_2 (w : World) : (Instr.index 9 (.string (rowS 3)) (.int .i64 ((2 : Nat) : Int))).run Try.prog w = .ok (.int .u8 ((fdB .q : Nat) : Int)) w := by kernel_rfl
theorem rowS_4_0 (w : World) : (Instr.index 9 (.string (rowS 4)) (.int .i64 ((0 : Nat) : Int))).run Try.prog w = .ok (.int .u8 ((fdB .c : Nat) : Int)) w := by kernel_rfl
theorem rowS_4_1 (w : World) : (Instr.index 9 (.string (rowS 4)) (.int .i64 ((1 : Nat) : Int))).run Try.prog w = .ok (.int .u8 ((fdB .p : Nat) : Int)) w := by kernel_rfl
theorem rowS_4_2 (w : World) : (Instr.index 9 (.string (rowS 4)) (.int .i64 ((2 : Nat) : Int))).run Try.prog w = .ok (.int .u8 ((fdB .e : Nat) : Int)) w := by kernel_rfl
theorem rowS_4_3 (w : World) : (Instr.index 9 (.string (rowS 4)) (.int .i64 ((3 : Nat) : Int))).run Try.prog w = .ok (.int .u8 ((fdB .b : Nat) : Int)) w := by kernel_rfl
theorem rowS_5_0 (w : World) : (Instr.index 9 (.string (rowS 5)) (.int .i64 ((0 : Nat) : Int))).run Try.prog w = .ok (.int .u8 ((fdB .c : Nat) : Int)) w := by kernel_rfl
theorem rowS_5_1 (w : World) : (Instr.index 9 (.string (rowS 5)) (.int .i64 ((1 : Nat) : Int))).run Try.prog w = .ok (.int .u8 ((fdB .b : Nat) : Int)) w := by kernel_rfl
theorem rowS_6_0 (w : World) : (Instr.index 9 (.string (rowS 6)) (.int .i64 ((0 : Nat) : Int))).run Try.prog w = .ok (.int .u8 ((fdB .c : Nat) : Int)) w := by kernel_rfl
theorem rowS_6_1 (w : World) : (Instr.index 9 (.string (rowS 6)) (.int .i64 ((1 : Nat) : Int))).run Try.prog w = .ok (.int .u8 ((fdB .x : Nat) : Int)) w := by kernel_rfl
theorem rowS_7_0 (w : World) : (Instr.index 9 (.string (rowS 7)) (.int .i64 ((0 : Nat) : Int))).run Try.prog w = .ok (.int .u8 ((fdB .c : Nat) : Int)) w := by kernel_rfl
theorem rowS_7_1 (w : World) : (Instr.index 9 (.string (rowS 7)) (.int .i64 ((1 : Nat) : Int))).run Try.prog w = .ok (.int .u8 ((fdB .b : Nat) : Int)) w := by kernel_rfl
theorem rowS_7_2 (w : World) : (Instr.index 9 (.string (rowS 7)) (.int .i64 ((2 : Nat) : Int))).run Try.prog w = .ok (.int .u8 ((fdB .l : Nat) : Int)) w := by kernel_rfl
theorem rowS_8_0 (w : World) : (Instr.index 9 (.string (rowS 8)) (.int .i64 ((0 : Nat) : Int))).run Try.prog w = .ok (.int .u8 ((fdB .c : Nat) : Int)) w := by kernel_rfl
theorem rowS_8_1 (w : World) : (Instr.index 9 (.string (rowS 8)) (.int .i64 ((1 : Nat) : Int))).run Try.prog w = .ok (.int .u8 ((fdB .w : Nat) : Int)) w := by kernel_rfl
theorem rowS_8_2 (w : World) : (Instr.index 9 (.string (rowS 8)) (.int .i64 ((2 : Nat) : Int))).run Try.prog w = .ok (.int .u8 ((fdB .q : Nat) : Int)) w := by kernel_rfl
theorem rowS_9_0 (w : World) : (Instr.index 9 (.string (rowS 9)) (.int .i64 ((0 : Nat) : Int))).run Try.prog w = .ok (.int .u8 ((fdB .c : Nat) : Int)) w := by kernel_rfl
theorem rowS_9_1 (w : World) : (Instr.index 9 (.string (rowS 9)) (.int .i64 ((1 : Nat) : Int))).run Try.prog w = .ok (.int .u8 ((fdB .w : Nat) : Int)) w := by kernel_rfl
theorem rowS_9_2 (w : World) : (Instr.index 9 (.string (rowS 9)) (.int .i64 ((2 : Nat) : Int))).run Try.prog w = .ok (.int .u8 ((fdB .m : Nat) : Int)) w := by kernel_rfl
theorem rowS_10_0 (w : World) : (Instr.index 9 (.string (rowS 10)) (.int .i64 ((0 : Nat) : Int))).run Try.prog w = .ok (.int .u8 ((fdB .c : Nat) : Int)) w := by kernel_rfl
theorem rowS_11_0 (w : World) : (Instr.index 9 (.string (rowS 11)) (.int .i64 ((0 : Nat) : Int))).run Try.prog w = .ok (.int .u8 ((fdB .c : Nat) : Int)) w := by kernel_rfl
theorem rowS_at : ∀ (k i : Nat) (f : Fd), (rowF k)[i]? = some f → ∀ w : World, (Instr.index 9 (.string (rowS k)) (.int .i64 (i : Nat))).run Try.prog w = .ok (.int .u8 (fdB f : Nat)) w
  | 0, i, f, h => by simp [rowF] at h
  | 1, 0, f, h => by
    have e : f = Fd.c := (Option.some.inj (show some Fd.c = some f from h)).symm
    rw [e]
    exact rowS_1_0
  | 1, 1, f, h => by
    have e : f = Fd.m := (Option.some.inj (show some Fd.m = some f from h)).symm
    rw [e]
    exact rowS_1_1
  | 1, i + 2, f, h => by simp [rowF] at h
  | 2, 0, f, h => by
    have e : f = Fd.c := (Option.some.inj (show some Fd.c = some f from h)).symm
    rw [e]
    exact rowS_2_0
  | 2, 1, f, h => by
    have e : f = Fd.s := (Option.some.inj (show some Fd.s = some f from h)).symm
    rw [e]
    exact rowS_2_1
  | 2, 2, f, h => by
    have e : f = Fd.n := (Option.some.inj (show some Fd.n = some f from h)).symm
    rw [e]
    exact rowS_2_2
  | 2, 3, f, h => by
    have e : f = Fd.g := (Option.some.inj (show some Fd.g = some f from h)).symm
    rw [e]
    exact rowS_2_3
  | 2, 4, f, h => by
    have e : f = Fd.h := (Option.some.inj (show some Fd.h = some f from h)).symm
    rw [e]
    exact rowS_2_4
  | 2, i + 5, f, h => by simp [rowF] at h
  | 3, 0, f, h => by
    have e : f = Fd.c := (Option.some.inj (show some Fd.c = some f from h)).symm
    rw [e]
    exact rowS_3_0
  | 3, 1, f, h => by
    have e : f = Fd.w := (Option.some.inj (show some Fd.w = some f from h)).symm
    rw [e]
    exact rowS_3_1
  | 3, 2, f, h => by
    have e : f = Fd.q := (Option.some.inj (show some Fd.q = some f from h)).symm
    rw [e]
    exact rowS_3_2
  | 3, i + 3, f, h => by simp [rowF] at h
  | 4, 0, f, h => by
    have e : f = Fd.c := (Option.some.inj (show some Fd.c = some f from h)).symm
    rw [e]
    exact rowS_4_0
  | 4, 1, f, h => by
    have e : f = Fd.p := (Option.some.inj (show some Fd.p = some f from h)).symm
    rw [e]
    exact rowS_4_1
  | 4, 2, f, h => by
    have e : f = Fd.e := (Option.some.inj (show some Fd.e = some f from h)).symm
    rw [e]
    exact rowS_4_2
  | 4, 3, f, h => by
    have e : f = Fd.b := (Option.some.inj (show some Fd.b = some f from h)).symm
    rw [e]
    exact rowS_4_3
  | 4, i + 4, f, h => by simp [rowF] at h
  | 5, 0, f, h => by
    have e : f = Fd.c := (Option.some.inj (show some Fd.c = some f from h)).symm
    rw [e]
    exact rowS_5_0
  | 5, 1, f, h => by
    have e : f = Fd.b := (Option.some.inj (show some Fd.b = some f from h)).symm
    rw [e]
    exact rowS_5_1
  | 5, i + 2, f, h => by simp [rowF] at h
  | 6, 0, f, h => by
    have e : f = Fd.c := (Option.some.inj (show some Fd.c = some f from h)).symm
    rw [e]
    exact rowS_6_0
  | 6, 1, f, h => by
    have e : f = Fd.x := (Option.some.inj (show some Fd.x = some f from h)).symm
    rw [e]
    exact rowS_6_1
  | 6, i + 2, f, h => by simp [rowF] at h
  | 7, 0, f, h => by
    have e : f = Fd.c := (Option.some.inj (show some Fd.c = some f from h)).symm
    rw [e]
    exact rowS_7_0
  | 7, 1, f, h => by
    have e : f = Fd.b := (Option.some.inj (show some Fd.b = some f from h)).symm
    rw [e]
    exact rowS_7_1
  | 7, 2, f, h => by
    have e : f = Fd.l := (Option.some.inj (show some Fd.l = some f from h)).symm
    rw [e]
    exact rowS_7_2
  | 7, i + 3, f, h => by simp [rowF] at h
  | 8, 0, f, h => by
    have e : f = Fd.c := (Option.some.inj (show some Fd.c = some f from h)).symm
    rw [e]
    exact rowS_8_0
  | 8, 1, f, h => by
    have e : f = Fd.w := (Option.some.inj (show some Fd.w = some f from h)).symm
    rw [e]
    exact rowS_8_1
  | 8, 2, f, h => by
    have e : f = Fd.q := (Option.some.inj (show some Fd.q = some f from h)).symm
    rw [e]
    exact rowS_8_2
  | 8, i + 3, f, h => by simp [rowF] at h
  | 9, 0, f, h => by
    have e : f = Fd.c := (Option.some.inj (show some Fd.c = some f from h)).symm
    rw [e]
    exact rowS_9_0
  | 9, 1, f, h => by
    have e : f = Fd.w := (Option.some.inj (show some Fd.w = some f from h)).symm
    rw [e]
    exact rowS_9_1
  | 9, 2, f, h => by
    have e : f = Fd.m := (Option.some.inj (show some Fd.m = some f from h)).symm
    rw [e]
    exact rowS_9_2
  | 9, i + 3, f, h => by simp [rowF] at h
  | 10, 0, f, h => by
    have e : f = Fd.c := (Option.some.inj (show some Fd.c = some f from h)).symm
    rw [e]
    exact rowS_10_0
  | 10, i + 1, f, h => by simp [rowF] at h
  | 11, 0, f, h => by
    have e : f = Fd.c := (Option.some.inj (show some Fd.c = some f from h)).symm
    rw [e]
    exact rowS_11_0
  | 11, i + 1, f, h => by simp [rowF] at h
  | k + 12, i, f, h => by simp [rowF] at h
theorem rowF_last : ∀ (k i : Nat) (f : Fd), (rowF k)[i]? = some f → f = .x ∨ f = .l → i + 1 = (rowF k).length
  | 0, i, f, h, _ => by simp [rowF] at h
  | 1, 0, f, h, hf => by
    have e : f = Fd.c := (Option.some.inj (show some Fd.c = some f from h)).symm
    rw [e] at hf
    rcases hf with h' | h' <;> cases h'
  | 1, 1, f, h, hf => by
    have e : f = Fd.m := (Option.some.inj (show some Fd.m = some f from h)).symm
    rw [e] at hf
    rcases hf with h' | h' <;> cases h'
  | 1, i + 2, f, h, _ => by simp [rowF] at h
  | 2, 0, f, h, hf => by
    have e : f = Fd.c := (Option.some.inj (show some Fd.c = some f from h)).symm
    rw [e] at hf
    rcases hf with h' | h' <;> cases h'
  | 2, 1, f, h, hf => by
    have e : f = Fd.s := (Option.some.inj (show some Fd.s = some f from h)).symm
    rw [e] at hf
    rcases hf with h' | h' <;> cases h'
  | 2, 2, f, h, hf => by
    have e : f = Fd.n := (Option.some.inj (show some Fd.n = some f from h)).symm
    rw [e] at hf
    rcases hf with h' | h' <;> cases h'
  | 2, 3, f, h, hf => by
    have e : f = Fd.g := (Option.some.inj (show some Fd.g = some f from h)).symm
    rw [e] at hf
    rcases hf with h' | h' <;> cases h'
  | 2, 4, f, h, hf => by
    have e : f = Fd.h := (Option.some.inj (show some Fd.h = some f from h)).symm
    rw [e] at hf
    rcases hf with h' | h' <;> cases h'
  | 2, i + 5, f, h, _ => by simp [rowF] at h
  | 3, 0, f, h, hf => by
    have e : f = Fd.c := (Option.some.inj (show some Fd.c = some f from h)).symm
    rw [e] at hf
    rcases hf with h' | h' <;> cases h'
  | 3, 1, f, h, hf => by
    have e : f = Fd.w := (Option.some.inj (show some Fd.w = some f from h)).symm
    rw [e] at hf
    rcases hf with h' | h' <;> cases h'
  | 3, 2, f, h, hf => by
    have e : f = Fd.q := (Option.some.inj (show some Fd.q = some f from h)).symm
    rw [e] at hf
    rcases hf with h' | h' <;> cases h'
  | 3, i + 3, f, h, _ => by simp [rowF] at h
  | 4, 0, f, h, hf => by
    have e : f = Fd.c := (Option.some.inj (show some Fd.c = some f from h)).symm
    rw [e] at hf
    rcases hf with h' | h' <;> cases h'
  | 4, 1, f, h, hf => by
    have e : f = Fd.p := (Option.some.inj (show some Fd.p = some f from h)).symm
    rw [e] at hf
    rcases hf with h' | h' <;> cases h'
  | 4, 2, f, h, hf => by
    have e : f = Fd.e := (Option.some.inj (show some Fd.e = some f from h)).symm
    rw [e] at hf
    rcases hf with h' | h' <;> cases h'
  | 4, 3, f, h, hf => by
    have e : f = Fd.b := (Option.some.inj (show some Fd.b = some f from h)).symm
    rw [e] at hf
    rcases hf with h' | h' <;> cases h'
  | 4, i + 4, f, h, _ => by simp [rowF] at h
  | 5, 0, f, h, hf => by
    have e : f = Fd.c := (Option.some.inj (show some Fd.c = some f from h)).symm
    rw [e] at hf
    rcases hf with h' | h' <;> cases h'
  | 5, 1, f, h, hf => by
    have e : f = Fd.b := (Option.some.inj (show some Fd.b = some f from h)).symm
    rw [e] at hf
    rcases hf with h' | h' <;> cases h'
  | 5, i + 2, f, h, _ => by simp [rowF] at h
  | 6, 0, f, h, hf => by
    have e : f = Fd.c := (Option.some.inj (show some Fd.c = some f from h)).symm
    rw [e] at hf
    rcases hf with h' | h' <;> cases h'
  | 6, 1, f, h, _ => rfl
  | 6, i + 2, f, h, _ => by simp [rowF] at h
  | 7, 0, f, h, hf => by
    have e : f = Fd.c := (Option.some.inj (show some Fd.c = some f from h)).symm
    rw [e] at hf
    rcases hf with h' | h' <;> cases h'
  | 7, 1, f, h, hf => by
    have e : f = Fd.b := (Option.some.inj (show some Fd.b = some f from h)).symm
    rw [e] at hf
    rcases hf with h' | h' <;> cases h'
  | 7, 2, f, h, _ => rfl
  | 7, i + 3, f, h, _ => by simp [rowF] at h
  | 8, 0, f, h, hf => by
    have e : f = Fd.c := (Option.some.inj (show some Fd.c = some f from h)).symm
    rw [e] at hf
    rcases hf with h' | h' <;> cases h'
  | 8, 1, f, h, hf => by
    have e : f = Fd.w := (Option.some.inj (show some Fd.w = some f from h)).symm
    rw [e] at hf
    rcases hf with h' | h' <;> cases h'
  | 8, 2, f, h, hf => by
    have e : f = Fd.q := (Option.some.inj (show some Fd.q = some f from h)).symm
    rw [e] at hf
    rcases hf with h' | h' <;> cases h'
  | 8, i + 3, f, h, _ => by simp [rowF] at h
  | 9, 0, f, h, hf => by
    have e : f = Fd.c := (Option.some.inj (show some Fd.c = some f from h)).symm
    rw [e] at hf
    rcases hf with h' | h' <;> cases h'
  | 9, 1, f, h, hf => by
    have e : f = Fd.w := (Option.some.inj (show some Fd.w = some f from h)).symm
    rw [e] at hf
    rcases hf with h' | h' <;> cases h'
  | 9, 2, f, h, hf => by
    have e : f = Fd.m := (Option.some.inj (show some Fd.m = some f from h)).symm
    rw [e] at hf
    rcases hf with h' | h' <;> cases h'
  | 9, i + 3, f, h, _ => by simp [rowF] at h
  | 10, 0, f, h, hf => by
    have e : f = Fd.c := (Option.some.inj (show some Fd.c = some f from h)).symm
    rw [e] at hf
    rcases hf with h' | h' <;> cases h'
  | 10, i + 1, f, h, _ => by simp [rowF] at h
  | 11, 0, f, h, hf => by
    have e : f = Fd.c := (Option.some.inj (show some Fd.c = some f from h)).symm
    rw [e] at hf
    rcases hf with h' | h' <;> cases h'
  | 11, i + 1, f, h, _ => by simp [rowF] at h
  | k + 12, i, f, h, _ => by simp [rowF] at h
theorem rowF_five : ∀ k, (rowF k).length ≤ 5
  | 0 => by decide
  | 1 => by decide
  | 2 => by decide
  | 3 => by decide
  | 4 => by decide
  | 5 => by decide
  | 6 => by decide
  | 7 => by decide
  | 8 => by decide
  | 9 => by decide
  | 10 => by decide
  | 11 => by decide
  | k + 12 => Nat.zero_le 5

/-- Amid Parse: so many fields were taken, up to there. -/
structure PRel (k : Nat) (y : ByteArray) (p0 : Pk) (i a c : Nat) (q : Pk) (vx : Vc) : Prop where
  le : a ≤ 1000000 * i
  rel : (c = 0 ∧ getFs (rowF k) p0 (restB y 0) = getFs ((rowF k).drop i) q (restB y a) ∧ a ≤ y.size ∧ (i < (rowF k).length → q.x = [] ∧ vx = Vc.nil)) ∨ (c ≠ 0 ∧ getFs (rowF k) p0 (restB y 0) = .error c)
theorem PRel.begin (k : Nat) (y : ByteArray) (p0 : Pk) (h : p0.x = []) : PRel k y p0 0 0 0 p0 Vc.nil :=
  ⟨Nat.zero_le _, .inl ⟨rfl, by rw [List.drop_zero], Nat.zero_le _, fun _ => ⟨h, rfl⟩⟩⟩
theorem PRel.nil {k : Nat} {y : ByteArray} {p0 : Pk} {i a : Nat} {q : Pk} {vx : Vc} (h : PRel k y p0 i a 0 q vx) (hi : i < (rowF k).length) : q.x = [] ∧ vx = Vc.nil := by
  rcases h.rel with ⟨_, _, _, h1⟩ | ⟨h1, _⟩
  · exact h1 hi
  · exact absurd rfl h1
theorem PRel.step {k : Nat} {y : ByteArray} {p0 : Pk} {i a a' c' : Nat} {q q' : Pk} {vx vy : Vc} {f : Fd} (h : PRel k y p0 i a 0 q vx) (hf : (rowF k)[i]? = some f) (ha : a' ≤ a + 1000000) (hT : TR (getF f q) y a 0 a' c' q') (hx : f ≠ .x → f ≠ .l → q'.x = q.x ∧ vy = vx) : PRel k y p0 (i + 1) a' c' q' vy := by
  obtain ⟨hlt, e⟩ := List.getElem?_eq_some_iff.1 hf
  refine ⟨by have := h.le; rw [Nat.mul_add]; omega, ?_⟩
  rcases h.rel with ⟨_, h1, _, h2⟩ | ⟨h1, _⟩
  · rw [List.drop_eq_getElem_cons hlt, e] at h1
    have h3 : getFs (rowF k) p0 (restB y 0) = andG (getF f q (restB y a)) fun p r => getFs ((rowF k).drop (i + 1)) p r := h1
    rcases hT with ⟨h4, _⟩ | ⟨_, h4, hG, hs⟩ | ⟨_, h4, hG⟩
    · exact absurd rfl h4
    · refine .inl ⟨h4, by rw [h3, hG, andG_ok], hs, fun hi => ?_⟩
      have hnx : f ≠ .x := fun e' => by have := rowF_last k i f hf (.inl e'); omega
      have hnl : f ≠ .l := fun e' => by have := rowF_last k i f hf (.inr e'); omega
      obtain ⟨e1, e2⟩ := hx hnx hnl
      obtain ⟨e3, e4⟩ := h2 hlt
      exact ⟨e1.trans e3, e2.trans e4⟩
    · exact .inr ⟨h4, by rw [h3, hG, andG_err]⟩
  · exact absurd rfl h1
theorem PRel.bad {k : Nat} {y : ByteArray} {f t : Int} {i a c : Nat} {q : Pk} {vx : Vc} (h : PRel k y (baseP (k : Int) f t) i a c q vx) (h1 : 1 ≤ k) (h11 : k ≤ 11) (hi : c = 0 → i = (rowF k).length) (hb : badC c 4 (decide (a < y.size)) ≠ 0) :
    parseB (k : Int) f t (restB y 0) = .error (badC c 4 (decide (a < y.size))) := by
  have hr : rowP (baseP (k : Int) f t) = rowF k := by unfold rowP; rw [if_pos (by show 1 ≤ (k : Int) ∧ (k : Int) ≤ 11; omega)]; rfl
  unfold parseB
  rw [hr]
  rcases h.rel with ⟨h2, h3, h4, _⟩ | ⟨h2, h3⟩
  · subst h2
    rw [h3, hi rfl, List.drop_length]
    unfold badC at hb ⊢
    by_cases hlt : a < y.size
    · rw [decide_eq_true hlt, if_pos rfl, if_pos rfl]
      have hne : restB y a ≠ [] := by
        intro e
        have := congrArg List.length e
        rw [restB_length] at this
        simp at this
        omega
      show (match Except.ok (q, restB y a) with | .error e => .error e | .ok (q, []) => .ok q | .ok (_, _ :: _) => .error 4) = Except.error 4
      cases hl : restB y a with
      | nil => exact absurd hl hne
      | cons z zs => rfl
    · rw [decide_eq_false hlt, if_neg (by decide)] at hb
      exact absurd rfl hb
  · rw [h3]
    have : badC c 4 (decide (a < y.size)) = c := by
      unfold badC
      rw [if_neg h2]
      split <;> rfl
    rw [this]
theorem PRel.good {k : Nat} {y : ByteArray} {f t : Int} {i a c : Nat} {q : Pk} {vx : Vc} (h : PRel k y (baseP (k : Int) f t) i a c q vx) (h1 : 1 ≤ k) (h11 : k ≤ 11) (hi : c = 0 → i = (rowF k).length) (hb : badC c 4 (decide (a < y.size)) = 0) :
    parseB (k : Int) f t (restB y 0) = .ok q := by
  have hr : rowP (baseP (k : Int) f t) = rowF k := by unfold rowP; rw [if_pos (by show 1 ≤ (k : Int) ∧ (k : Int) ≤ 11; omega)]; rfl
  unfold parseB
  rw [hr]
  unfold badC at hb
  rcases h.rel with ⟨h2, h3, h4, _⟩ | ⟨h2, h3⟩
  · subst h2
    by_cases hlt : a < y.size
    · rw [decide_eq_true hlt, if_pos rfl, if_pos rfl] at hb
      exact absurd hb (by decide)
    · rw [h3, hi rfl, List.drop_length]
      have he : restB y a = [] := List.eq_nil_of_length_eq_zero (by rw [restB_length]; omega)
      rw [he]
      rfl
  · rw [if_neg h2] at hb
    split at hb
    · exact absurd hb h2
    · exact absurd hb h2

/-- Amid Parse: the reader, the packet, the result's block. -/
structure PS (w W : World) (gp gb : Nat) (y : ByteArray) (a c : Nat) (q : Pk) (T : ByteArray) (vd vg vx : Vc) : Prop where
  tk : Tk W gb y a c
  row : Own W gp 35 (encP q T vd vg vx).toArray
  res : Own W w.heap.size 35 (encP zeroP { data := #[] } Vc.nil Vc.nil Vc.nil).toArray
  own : OwnPk (gb + 1) W q T vd vg vx
  below : Below w.heap.size w W
  l1 : w.heap.size < gp
  l2 : gp < gb
theorem PS.later {w W W' : World} {gp gb : Nat} {y : ByteArray} {a c : Nat} {q : Pk} {T : ByteArray} {vd vg vx : Vc} (h : PS w W gp gb y a c q T vd vg vx) (hb : Below W.heap.size W W') : PS w W' gp gb y a c q T vd vg vx :=
  ⟨h.tk.later hb, h.row.below hb h.row.lt, h.res.below hb h.res.lt, h.own.below hb, h.below.trans (hb.mono h.below.size), h.l1, h.l2⟩
theorem PS.go {w W W' : World} {gp gb : Nat} {y : ByteArray} {a c a' c' : Nat} {q : Pk} {T : ByteArray} {vd vg vx : Vc} (h : PS w W gp gb y a c q T vd vg vx) (ht : Tk W' gb y a' c') (hg : W.grownBy W' (some gb)) : PS w W' gp gb y a' c' q T vd vg vx :=
  have h1 := h.l1
  have h2 := h.l2
  ⟨ht, h.row.grown hg (by intro e; cases e; omega), h.res.grown hg (by intro e; cases e; omega), h.own.grown hg (by omega), h.below.grown hg h.below.size (fun k hk => by cases hk; omega), h.l1, h.l2⟩
theorem PS.put {w W : World} {gp gb : Nat} {y : ByteArray} {a c : Nat} {q q' : Pk} {T T' : ByteArray} {vd vg vx vd' vg' vx' : Vc} (h : PS w W gp gb y a c q T vd vg vx) (ho : OwnPk (gb + 1) W q' T' vd' vg' vx') : PS w (W.setRow gp (encP q' T' vd' vg' vx').toArray) gp gb y a c q' T' vd' vg' vx' :=
  have h1 := h.l1
  have h2 := h.l2
  ⟨h.tk.own.row_other _ (by omega), h.row.row _, h.res.row_other _ (by omega), ho.row (by omega) _, below_setRow h.below (by omega) _, h.l1, h.l2⟩
theorem results_pk {fn : Func} {p u : Tmp} (h : fn.results = #[.cell p 35, .tmp u]) (tmps : Array Value) (W : World) (g : Nat) {q : Pk} {T : ByteArray} {vd vg vx : Vc}
    (hp : tmps.getD p undef = .pointer (some ⟨g, 0, none⟩)) (hg : Own W g 35 (encP q T vd vg vx).toArray) :
    (results fn tmps).run Try.prog W = .ok (.tuple #[.agg (encP q T vd vg vx).toArray, tmps.getD u undef]) W := by
  rw [results_cell_tmp h, hp]
  have hl := run_loadVar_row (P := Try.prog) W g 35 35 (encP q T vd vg vx).toArray (0, 0) _ hg Try.underlying35 rfl packet_size
  simp [asAddr, hl, Result.andThen]

set_option maxHeartbeats 4000000 in
set_option maxRecDepth 100000 in
theorem tparse_bad (s : ByteArray) (hs : s.size ≤ 1099511627776) (w : World) (hc : pc s ≠ 0) : Calls Try.prog 10 #[.string s] w (ParsePost s w) := by
  have hp := fun W => refParse_any s W hs
  have HC := Lib.hid hc
  have HP := Lib.hid (parsedOf_bad hc)
  have R0 := Own.new w 35 (encP zeroP { data := #[] } Vc.nil Vc.nil Vc.nil).toArray
  have L0 := ((Grw.refl w).alloc (.cells (encP zeroP { data := #[] } Vc.nil Vc.nil Vc.nil).toArray 35)).below
  generalize pk s = k at *
  generalize pf s = f at *
  generalize pt s = t at *
  generalize pbody s = y at *
  generalize pc s = c at *
  have hne : ¬ (c : Int) = 0 := by omega
  clear hc
  go_enter Try.func10, Try.ntmps10
  go_upto_region 1 with fail
  change Own (w.alloc (.cells #[.int .i64 0, .int .i64 0, .int .i64 0, .int .u64 0, .int .i64 0, .int .i64 0, .int .u32 0, .int .u64 0, .int .i64 0, .slice none 0 0, .string { data := #[] }, .int .u64 0, .int .u32 0, .slice none 0 0, .int .u64 0, .int .i64 0, .int .u32 0, .int .u64 0, .int .u64 0, .int .i64 0, .int .u64 0, .slice none 0 0] 35)) _ _ _ at R0
  change Below _ w (w.alloc (.cells #[.int .i64 0, .int .i64 0, .int .i64 0, .int .u64 0, .int .i64 0, .int .i64 0, .int .u32 0, .int .u64 0, .int .i64 0, .slice none 0 0, .string { data := #[] }, .int .u64 0, .int .u32 0, .slice none 0 0, .int .u64 0, .int .i64 0, .int .u32 0, .int .u64 0, .int .u64 0, .int .i64 0, .int .u64 0, .slice none 0 0] 35)) at L0
  generalize w.alloc (.cells #[.int .i64 0, .int .i64 0, .int .i64 0, .int .u64 0, .int .i64 0, .int .i64 0, .int .u32 0, .int .u64 0, .int .i64 0, .slice none 0 0, .string { data := #[] }, .int .u64 0, .int .u32 0, .slice none 0 0, .int .u64 0, .int .i64 0, .int .u32 0, .int .u64 0, .int .u64 0, .int .i64 0, .int .u64 0, .slice none 0 0] 35) = W0 at *
  go_wp2_with fail
  refine (hp _).mono ?_
  rintro e w1 ⟨rfl, G1⟩
  have R1 := R0.below G1.below R0.lt
  have L1 := L0.trans (G1.below.mono L0.size)
  have HB := Lib.hid (below_setRow L1 (Nat.le_refl _) (encP zeroP { data := #[] } Vc.nil Vc.nil Vc.nil).toArray)
  clear R0 L0 G1 hp
  go_wp2_with (refine store_packet (p := zeroP) (T := { data := #[] }) (vd := Vc.nil) (vg := Vc.nil) (vx := Vc.nil) rfl (.tmp 2) (.tmp 23) rfl w.heap.size rfl rfl R1 ?_)
  (try simp only [Exit.inBlock, Exit.then])
  exact bodyPost_ret (results_pk (q := zeroP) (T := { data := #[] }) (vd := Vc.nil) (vg := Vc.nil) (vx := Vc.nil) rfl _ _ w.heap.size rfl (R1.row _)) rfl ⟨HB.out, .inr ⟨c, HC.out, HP.out, rfl⟩⟩

end Go.Proofs.Ytibngfpjdookkaa

/- The document's Parse. (Written by wip/gen_tkparse.py.) -/
set_option linter.unusedVariables false
set_option linter.unusedSimpArgs false
namespace Go.Proofs.Ytibngfpjdookkaa
open Go.RowKit Go.Sort

set_option maxHeartbeats 8000000 in
set_option maxRecDepth 100000 in
theorem tparse_ok (s : ByteArray) (hs : s.size ≤ 1099511627776) (w : World) (hc : pc s = 0) (hk : 1 ≤ pk s ∧ pk s ≤ 11) : Calls Try.prog 10 #[.string s] w (ParsePost s w) := by
  have hp := fun W => refParse_any s W hs
  have HP := Lib.hid (parsedOf_body hc)
  have hys : (pbody s).size ≤ 1099511627776 := Nat.le_trans (pbody_le s) hs
  have R0 := Own.new w 35 (encP zeroP { data := #[] } Vc.nil Vc.nil Vc.nil).toArray
  have L0 := ((Grw.refl w).alloc (.cells (encP zeroP { data := #[] } Vc.nil Vc.nil Vc.nil).toArray 35)).below
  rw [hc] at hp
  generalize pk s = k at *
  generalize pf s = f at *
  generalize pt s = t at *
  generalize pbody s = y at *
  clear hc
  obtain ⟨hk1, hk11⟩ := hk
  go_enter Try.func10, Try.ntmps10
  go_upto_region 1 with fail
  change Own (w.alloc (.cells #[.int .i64 0, .int .i64 0, .int .i64 0, .int .u64 0, .int .i64 0, .int .i64 0, .int .u32 0, .int .u64 0, .int .i64 0, .slice none 0 0, .string { data := #[] }, .int .u64 0, .int .u32 0, .slice none 0 0, .int .u64 0, .int .i64 0, .int .u32 0, .int .u64 0, .int .u64 0, .int .i64 0, .int .u64 0, .slice none 0 0] 35)) _ _ _ at R0
  change Below _ w (w.alloc (.cells #[.int .i64 0, .int .i64 0, .int .i64 0, .int .u64 0, .int .i64 0, .int .i64 0, .int .u32 0, .int .u64 0, .int .i64 0, .slice none 0 0, .string { data := #[] }, .int .u64 0, .int .u32 0, .slice none 0 0, .int .u64 0, .int .i64 0, .int .u32 0, .int .u64 0, .int .u64 0, .int .i64 0, .int .u64 0, .slice none 0 0] 35)) at L0
  generalize w.alloc (.cells #[.int .i64 0, .int .i64 0, .int .i64 0, .int .u64 0, .int .i64 0, .int .i64 0, .int .u32 0, .int .u64 0, .int .i64 0, .slice none 0 0, .string { data := #[] }, .int .u64 0, .int .u32 0, .slice none 0 0, .int .u64 0, .int .i64 0, .int .u32 0, .int .u64 0, .int .u64 0, .int .i64 0, .int .u64 0, .slice none 0 0] 35) = W0 at *
  go_upto_region 2 with (go_at_call 24; refine (hp _).mono ?_; rintro e w1 ⟨rfl, G1⟩)
  have R1 := R0.below G1.below R0.lt
  have L1 := L0.trans (G1.below.mono L0.size)
  clear hp
  go_upto_region 5 with (refine store_packet (p := baseP (k : Int) (f : Int) (t : Int)) (T := { data := #[] }) (vd := Vc.nil) (vg := Vc.nil) (vx := Vc.nil) rfl (.tmp 9) (.tmp 28) rfl w1.heap.size rfl rfl (boxed_new w1) ?_)
  rw [boxed_is]
  have OB := boxed_own w1 (baseP (k : Int) (f : Int) (t : Int)) { data := #[] } Vc.nil Vc.nil Vc.nil
  have BB := boxed_below w1 (baseP (k : Int) (f : Int) (t : Int)) { data := #[] } Vc.nil Vc.nil Vc.nil
  have RB := R1.below BB R1.lt
  have LB := L1.trans (BB.mono L1.size)
  have h0 : w.heap.size < w1.heap.size := R1.lt
  generalize boxed w1 (baseP (k : Int) (f : Int) (t : Int)) { data := #[] } Vc.nil Vc.nil Vc.nil = w2 at *
  have hgpl := OB.lt
  generalize w1.heap.size = gp at *
  clear L0 G1 R1 L1 R0 BB
  go_upto_region 6 with fail
  have S0 : PS w (w2.alloc (.cells #[.string y, .int .i64 0, .int .i64 0] 69)) gp w2.heap.size y 0 0 (baseP (k : Int) (f : Int) (t : Int)) { data := #[] } Vc.nil Vc.nil Vc.nil := by
    have b2 := ((Grw.refl w2).alloc (.cells #[.string y, .int .i64 0, .int .i64 0] 69)).below
    exact ⟨Own.new w2 69 #[.string y, .int .i64 0, .int .i64 0], OB.below b2 OB.lt, RB.below b2 RB.lt, OwnPk.base _ _ _ _ _, LB.trans (b2.mono LB.size), h0, hgpl⟩
  clear OB RB LB
  generalize w2.alloc (.cells #[.string y, .int .i64 0, .int .i64 0] 69) = W1 at *
  generalize w2.heap.size = gb at *
  have hr := row_any k hk1 hk11 W1
  go_upto_region 7 with (go_at_call 25; refine hr.mono ?_; rintro e w' ⟨rfl, rfl⟩)
  have hsz := rowS_size k
  have h5 := rowF_five k
  have E0 := PRel.begin k y (baseP (k : Int) (f : Int) (t : Int)) rfl
  have hix := Lib.hid (rowS_at k)
  generalize hS : rowS k = S at *
  clear hS hr
  obtain ⟨n, hn⟩ : ∃ n, (rowF k).length = n := ⟨_, rfl⟩
  rw [hn] at hsz h5
  replace hn := Lib.hid hn
  go_wp2
  go_loopw [12] (fun i wr => ∃ (m a c : Nat) (q : Pk) (T : ByteArray) (vd vg vx : Vc), m ≤ n ∧ i = .int .i64 (m : Int) ∧ PS w wr gp gb y a c q T vd vg vx ∧ PRel k y (baseP (k : Int) (f : Int) (t : Int)) m a c q vx) (fun i _ => n - (intOf i).toNat)
  case atStart => exact ⟨0, 0, 0, _, _, _, _, _, Nat.zero_le _, rfl, S0, E0⟩
  case round =>
    clear S0 E0
    obtain ⟨m, a, c, q, T, vd, vg, vx, hm, rfl, A, E⟩ := hrel
    have t2 := A.tk.c2
    have hle := E.le
    have ha : a ≤ 562949953421312 := by omega
    by_cases hmn : m < n
    · by_cases hck : c = 0
      · subst hck
        obtain ⟨fd, hfd⟩ : ∃ fd, (rowF k)[m]? = some fd := ⟨_, List.getElem?_eq_getElem (by rw [hn.out]; exact hmn)⟩
        have hnil := Lib.hid (E.nil (by rw [hn.out]; exact hmn))
        have hx := hix.out m fd hfd
        have hmS : m < S.size := by omega
        have HE := Lib.hid E
        have HF := Lib.hid hfd
        clear hle
        go_upto_region 10 with fail
        have A0 : PS w wr.drew gp gb y a 0 q T vd vg vx := A.later ((Grw.refl wr).drew).below
        clear A E t2 hfd
        refine wp_region_held_drew (S := fun _ => True) (by kernel_rfl) trivial (fun _ => ?_)
        generalize wr.drew = W at *
        refine tdrop (i := 0) (v := .pointer (some ⟨gb, 0, none⟩)) 47 rfl (by kernel_rfl) (by kernel_rfl) (by kernel_rfl) (by kernel_rfl) (fun _ _ _ h => h) (.inl ⟨by kernel_rfl, fun w' hS => by (go_simp)⟩) trivial ?_
        (try simp only [Act.put, List.setIfInBounds_toArray, List.set_cons_zero, List.set_cons_succ])
        refine tdrop (i := 1) (v := .string S) 48 rfl (by kernel_rfl) (by kernel_rfl) (by kernel_rfl) (by kernel_rfl) (fun _ _ _ h => h) (.inl ⟨by kernel_rfl, fun w' hS => by (go_simp)⟩) trivial ?_
        (try simp only [Act.put, List.setIfInBounds_toArray, List.set_cons_zero, List.set_cons_succ])
        refine tdrop (i := 2) (v := .int .i64 (m : Int)) 49 rfl (by kernel_rfl) (by kernel_rfl) (by kernel_rfl) (by kernel_rfl) (fun _ _ _ h => h) (.inl ⟨by kernel_rfl, fun w' hS => by (go_simp)⟩) trivial ?_
        (try simp only [Act.put, List.setIfInBounds_toArray, List.set_cons_zero, List.set_cons_succ])
        refine tdrop (i := 3) (v := .int .u8 (fdB fd : Nat)) 50 rfl (by kernel_rfl) (by kernel_rfl) (by kernel_rfl) (by kernel_rfl) (fun _ _ _ h => h) (.inl ⟨by kernel_rfl, fun w' hS => by (go_simp)⟩) trivial ?_
        (try simp only [Act.put, List.setIfInBounds_toArray, List.set_cons_zero, List.set_cons_succ])
        refine wpAnyH_ready (rs := [4]) (by kernel_rfl) (by simp) (AllReadyH.cons rfl (fun K hK => ?_) AllReadyH.nil)
        rw [if_pos (by kernel_rfl)]
        refine wp_load_row 35 (.tmp 9) rfl gp rfl 35 _ _ _ A0.row Try.underlying35 rfl packet_size ?_
        refine hK.out _ _ trivial (fun _ => ?_)
        clear hK K
        (try simp only [Act.put, List.setIfInBounds_toArray, List.set_cons_zero, List.set_cons_succ])
        have hcall := tfield fd A0.tk ha hys (gb + 1) q T vd vg vx A0.own (Nat.lt_succ_self _) A0.tk.lt hnil.out
        refine wpAnyH_ready (rs := [5]) (by kernel_rfl) (by simp) (AllReadyH.cons rfl (fun K hK => ?_) AllReadyH.nil)
        rw [if_pos (by kernel_rfl)]
        go_simp
        refine hcall.mono ?_
        rintro e w2 ⟨q', T', ud, ug, ux, a', c', rfl, O2, hle2, T2, G2, R2, hxx⟩
        have A2 := A0.go T2 G2
        have E2 := HE.out.step HF.out hle2 R2 hxx
        refine hK.out _ _ trivial (fun _ => ?_)
        clear hK K
        (try simp only [Act.put, List.setIfInBounds_toArray, List.set_cons_zero, List.set_cons_succ])
        refine wpAnyH_ready (rs := [6]) (by kernel_rfl) (by simp) (AllReadyH.cons rfl (fun K hK => ?_) AllReadyH.nil)
        rw [if_pos (by kernel_rfl)]
        refine wp_store_row 35 (.tmp 9) (.tmp 52) rfl gp _ rfl rfl 35 _ A2.row packet_size rfl (encP_one _ _ _ _ _) ?_
        have A3 := Lib.hid (A2.put O2)
        have E3 := Lib.hid E2
        refine hK.out _ _ trivial (fun _ => ?_)
        clear hK K A2 O2 T2 G2 R2 E2 A0 hcall
        (try simp only [Act.put, List.setIfInBounds_toArray, List.set_cons_zero, List.set_cons_succ])
        refine wpAnyH_done (by kernel_rfl) ?_ _
        go_wp2
        go_roundw
        case rel => exact ⟨m + 1, a', c', q', T', ud, ug, ux, by omega, by go_num, A3.out, E3.out⟩
        case measure => simp [intOf]; omega
      · have hne : ((c : Int) == 0) = false := by rw [beq_eq_false_iff_ne]; omega
        have HI : c = 0 → m = (rowF k).length := fun h => absurd h hck
        have hd : decide ((a : Int) < (y.size : Int)) = decide (a < y.size) := by apply decide_eq_decide.2; omega
        have t1 := A.tk.c1
        have hb : Calls Try.prog 27 #[.pointer (some ⟨gb, 0, none⟩), .int .i64 4, .bool (decide (a < y.size))] wr fun e' w' => e' = .returned (.tuple #[]) ∧ Tk w' gb y a (badC c 4 (decide (a < y.size))) ∧ wr.grownBy w' (some gb) := tbad A.tk 4 (decide (a < y.size)) (by decide)
        have HBad := Lib.hid (fun h => E.bad hk1 hk11 HI h)
        have HGood := Lib.hid (fun h => E.good hk1 hk11 HI h)
        clear hle E
        generalize badC c 4 (decide (a < y.size)) = d at *
        go_upto_region 12 with (go_at_call 27; refine hb.mono ?_; rintro e w2 ⟨rfl, T2, G2⟩)
        have A2 := A.go T2 G2
        clear A t1 t2 hb T2 G2
        have t2 := A2.tk.c2
        by_cases hd0 : d = 0
        · subst hd0
          have OR := A2.row
          have OZ := A2.res
          have HO := Lib.hid (A2.own.row (g := w.heap.size) (by have := A2.l1; have := A2.l2; omega) (encP q T vd vg vx).toArray)
          have HL := Lib.hid (below_setRow A2.below (Nat.le_refl _) (encP q T vd vg vx).toArray)
          have hl1 := A2.l1
          have hl2 := A2.l2
          clear A2
          go_upto_region 14 with fail
          clear t2
          go_wp2_with (first | (refine load_packet rfl (.tmp 9) rfl gp rfl OR ?_) | (refine store_packet rfl (.tmp 2) (.tmp 72) rfl w.heap.size rfl rfl OZ ?_))
          (try simp only [Exit.inBlock, Exit.then])
          exact bodyPost_ret (results_pk rfl _ _ w.heap.size rfl (OZ.row _)) rfl ⟨HL.out, .inl ⟨q, T, vd, vg, vx, by rw [HP.out]; exact HGood.out (by trivial), rfl, HO.out.mono (by omega)⟩⟩
        · have hdn : ¬ (d : Int) = 0 := by omega
          go_upto_region 13 with fail
          have A3 : PS w w2.drew gp gb y a d q T vd vg vx := A2.later ((Grw.refl w2).drew).below
          clear A2 t2
          have t3 : w2.drew.cell? ⟨gb, 2, none⟩ = some (.int .i64 (d : Int)) := A3.tk.c2
          refine wp_region_held_drew (S := fun W => W.cell? ⟨gb, 2, none⟩ = some (.int .i64 (d : Int))) (by kernel_rfl) t3 (fun hHeld => ?_)
          generalize w2.drew = W at *
          refine tdrop (i := 0) (v := .agg (encP zeroP { data := #[] } Vc.nil Vc.nil Vc.nil).toArray) 67 rfl (by kernel_rfl) (by kernel_rfl) (by kernel_rfl) (by kernel_rfl) (fun _ _ _ h => h) (.inl ⟨by kernel_rfl, fun w' hS => by (go_simp; rfl)⟩) hHeld ?_
          (try simp only [Act.put, List.setIfInBounds_toArray, List.set_cons_zero, List.set_cons_succ])
          refine tdrop (i := 1) (v := .pointer (some ⟨gb, 0, none⟩)) 68 rfl (by kernel_rfl) (by kernel_rfl) (by kernel_rfl) (by kernel_rfl) (fun _ _ _ h => h) (.inl ⟨by kernel_rfl, fun w' hS => by (go_simp)⟩) hHeld ?_
          (try simp only [Act.put, List.setIfInBounds_toArray, List.set_cons_zero, List.set_cons_succ])
          refine tdrop (i := 2) (v := .pointer (some ⟨gb, 0, none⟩)) 69 rfl (by kernel_rfl) (by kernel_rfl) (by kernel_rfl) (by kernel_rfl) (fun _ _ _ h => h) (.inl ⟨by kernel_rfl, fun w' hS => by (go_simp)⟩) hHeld ?_
          (try simp only [Act.put, List.setIfInBounds_toArray, List.set_cons_zero, List.set_cons_succ])
          refine tdrop (i := 3) (v := .pointer (some ⟨gb, 2, none⟩)) 70 rfl (by kernel_rfl) (by kernel_rfl) (by kernel_rfl) (by kernel_rfl) (fun _ _ _ h => h) (.inl ⟨by kernel_rfl, fun w' hS => by (go_simp)⟩) hHeld ?_
          (try simp only [Act.put, List.setIfInBounds_toArray, List.set_cons_zero, List.set_cons_succ])
          refine tdrop (i := 4) (v := .int .i64 (d : Int)) 71 rfl (by kernel_rfl) (by kernel_rfl) (by kernel_rfl) (by kernel_rfl) (fun _ _ _ h => h) (.inl ⟨by kernel_rfl, fun w' hS => by (dsimp only at hS; go_simp)⟩) hHeld ?_
          (try simp only [Act.put, List.setIfInBounds_toArray, List.set_cons_zero, List.set_cons_succ])
          refine wpAnyH_ready (rs := [5]) (by kernel_rfl) (by simp) (AllReadyH.cons rfl (fun K hK => ?_) AllReadyH.nil)
          rw [if_pos (by kernel_rfl)]
          refine wp_store_row 35 (.tmp 2) (.tmp 67) rfl w.heap.size _ rfl rfl 35 _ A3.res packet_size rfl (encP_one _ _ _ _ _) ?_
          have hl1 := A3.l1
          have hl2 := A3.l2
          have R4 := A3.res.row (encP zeroP { data := #[] } Vc.nil Vc.nil Vc.nil).toArray
          have B4 := Lib.hid (below_setRow A3.below (Nat.le_refl _) (encP zeroP { data := #[] } Vc.nil Vc.nil Vc.nil).toArray)
          have t4 : (W.setRow w.heap.size (encP zeroP { data := #[] } Vc.nil Vc.nil Vc.nil).toArray).cell? ⟨gb, 2, none⟩ = some (.int .i64 (d : Int)) := (A3.tk.own.row_other (encP zeroP { data := #[] } Vc.nil Vc.nil Vc.nil).toArray (show gb ≠ w.heap.size by omega)).at_ 2 _ rfl
          refine hK.out _ _ t4 (fun hHeld => ?_)
          clear hK K
          (try simp only [Act.put, List.setIfInBounds_toArray, List.set_cons_zero, List.set_cons_succ])
          refine wpAnyH_ready (rs := [6]) (by kernel_rfl) (by simp) (AllReadyH.cons rfl (fun K hK => ?_) AllReadyH.nil)
          rw [if_pos (by kernel_rfl)]
          go_simp
          refine hK.out _ _ t4 (fun hHeld => ?_)
          clear hK K hHeld
          refine wpAnyH_done (by kernel_rfl) ?_ _
          clear t3 t4 A3
          go_wp2
          (try simp only [Exit.inBlock, Exit.then])
          exact bodyPost_ret (results_pk (q := zeroP) (T := { data := #[] }) (vd := Vc.nil) (vg := Vc.nil) (vx := Vc.nil) rfl _ _ w.heap.size rfl R4) rfl ⟨B4.out, .inr ⟨d, hd0, by rw [HP.out]; exact HBad.out hd0, rfl⟩⟩
    · obtain rfl : m = n := by omega
      have HI : c = 0 → m = (rowF k).length := fun _ => hn.out.symm
      have hd : decide ((a : Int) < (y.size : Int)) = decide (a < y.size) := by apply decide_eq_decide.2; omega
      have t1 := A.tk.c1
      have hb : Calls Try.prog 27 #[.pointer (some ⟨gb, 0, none⟩), .int .i64 4, .bool (decide (a < y.size))] wr fun e' w' => e' = .returned (.tuple #[]) ∧ Tk w' gb y a (badC c 4 (decide (a < y.size))) ∧ wr.grownBy w' (some gb) := tbad A.tk 4 (decide (a < y.size)) (by decide)
      have HBad := Lib.hid (fun h => E.bad hk1 hk11 HI h)
      have HGood := Lib.hid (fun h => E.good hk1 hk11 HI h)
      clear hle E
      generalize badC c 4 (decide (a < y.size)) = d at *
      go_upto_region 12 with (go_at_call 27; refine hb.mono ?_; rintro e w2 ⟨rfl, T2, G2⟩)
      have A2 := A.go T2 G2
      clear A t1 t2 hb T2 G2
      have t2 := A2.tk.c2
      by_cases hd0 : d = 0
      · subst hd0
        have OR := A2.row
        have OZ := A2.res
        have HO := Lib.hid (A2.own.row (g := w.heap.size) (by have := A2.l1; have := A2.l2; omega) (encP q T vd vg vx).toArray)
        have HL := Lib.hid (below_setRow A2.below (Nat.le_refl _) (encP q T vd vg vx).toArray)
        have hl1 := A2.l1
        have hl2 := A2.l2
        clear A2
        go_upto_region 14 with fail
        clear t2
        go_wp2_with (first | (refine load_packet rfl (.tmp 9) rfl gp rfl OR ?_) | (refine store_packet rfl (.tmp 2) (.tmp 72) rfl w.heap.size rfl rfl OZ ?_))
        (try simp only [Exit.inBlock, Exit.then])
        exact bodyPost_ret (results_pk rfl _ _ w.heap.size rfl (OZ.row _)) rfl ⟨HL.out, .inl ⟨q, T, vd, vg, vx, by rw [HP.out]; exact HGood.out (by trivial), rfl, HO.out.mono (by omega)⟩⟩
      · have hdn : ¬ (d : Int) = 0 := by omega
        go_upto_region 13 with fail
        have A3 : PS w w2.drew gp gb y a d q T vd vg vx := A2.later ((Grw.refl w2).drew).below
        clear A2 t2
        have t3 : w2.drew.cell? ⟨gb, 2, none⟩ = some (.int .i64 (d : Int)) := A3.tk.c2
        refine wp_region_held_drew (S := fun W => W.cell? ⟨gb, 2, none⟩ = some (.int .i64 (d : Int))) (by kernel_rfl) t3 (fun hHeld => ?_)
        generalize w2.drew = W at *
        refine tdrop (i := 0) (v := .agg (encP zeroP { data := #[] } Vc.nil Vc.nil Vc.nil).toArray) 67 rfl (by kernel_rfl) (by kernel_rfl) (by kernel_rfl) (by kernel_rfl) (fun _ _ _ h => h) (.inl ⟨by kernel_rfl, fun w' hS => by (go_simp; rfl)⟩) hHeld ?_
        (try simp only [Act.put, List.setIfInBounds_toArray, List.set_cons_zero, List.set_cons_succ])
        refine tdrop (i := 1) (v := .pointer (some ⟨gb, 0, none⟩)) 68 rfl (by kernel_rfl) (by kernel_rfl) (by kernel_rfl) (by kernel_rfl) (fun _ _ _ h => h) (.inl ⟨by kernel_rfl, fun w' hS => by (go_simp)⟩) hHeld ?_
        (try simp only [Act.put, List.setIfInBounds_toArray, List.set_cons_zero, List.set_cons_succ])
        refine tdrop (i := 2) (v := .pointer (some ⟨gb, 0, none⟩)) 69 rfl (by kernel_rfl) (by kernel_rfl) (by kernel_rfl) (by kernel_rfl) (fun _ _ _ h => h) (.inl ⟨by kernel_rfl, fun w' hS => by (go_simp)⟩) hHeld ?_
        (try simp only [Act.put, List.setIfInBounds_toArray, List.set_cons_zero, List.set_cons_succ])
        refine tdrop (i := 3) (v := .pointer (some ⟨gb, 2, none⟩)) 70 rfl (by kernel_rfl) (by kernel_rfl) (by kernel_rfl) (by kernel_rfl) (fun _ _ _ h => h) (.inl ⟨by kernel_rfl, fun w' hS => by (go_simp)⟩) hHeld ?_
        (try simp only [Act.put, List.setIfInBounds_toArray, List.set_cons_zero, List.set_cons_succ])
        refine tdrop (i := 4) (v := .int .i64 (d : Int)) 71 rfl (by kernel_rfl) (by kernel_rfl) (by kernel_rfl) (by kernel_rfl) (fun _ _ _ h => h) (.inl ⟨by kernel_rfl, fun w' hS => by (dsimp only at hS; go_simp)⟩) hHeld ?_
        (try simp only [Act.put, List.setIfInBounds_toArray, List.set_cons_zero, List.set_cons_succ])
        refine wpAnyH_ready (rs := [5]) (by kernel_rfl) (by simp) (AllReadyH.cons rfl (fun K hK => ?_) AllReadyH.nil)
        rw [if_pos (by kernel_rfl)]
        refine wp_store_row 35 (.tmp 2) (.tmp 67) rfl w.heap.size _ rfl rfl 35 _ A3.res packet_size rfl (encP_one _ _ _ _ _) ?_
        have hl1 := A3.l1
        have hl2 := A3.l2
        have R4 := A3.res.row (encP zeroP { data := #[] } Vc.nil Vc.nil Vc.nil).toArray
        have B4 := Lib.hid (below_setRow A3.below (Nat.le_refl _) (encP zeroP { data := #[] } Vc.nil Vc.nil Vc.nil).toArray)
        have t4 : (W.setRow w.heap.size (encP zeroP { data := #[] } Vc.nil Vc.nil Vc.nil).toArray).cell? ⟨gb, 2, none⟩ = some (.int .i64 (d : Int)) := (A3.tk.own.row_other (encP zeroP { data := #[] } Vc.nil Vc.nil Vc.nil).toArray (show gb ≠ w.heap.size by omega)).at_ 2 _ rfl
        refine hK.out _ _ t4 (fun hHeld => ?_)
        clear hK K
        (try simp only [Act.put, List.setIfInBounds_toArray, List.set_cons_zero, List.set_cons_succ])
        refine wpAnyH_ready (rs := [6]) (by kernel_rfl) (by simp) (AllReadyH.cons rfl (fun K hK => ?_) AllReadyH.nil)
        rw [if_pos (by kernel_rfl)]
        go_simp
        refine hK.out _ _ t4 (fun hHeld => ?_)
        clear hK K hHeld
        refine wpAnyH_done (by kernel_rfl) ?_ _
        clear t3 t4 A3
        go_wp2
        (try simp only [Exit.inBlock, Exit.then])
        exact bodyPost_ret (results_pk (q := zeroP) (T := { data := #[] }) (vd := Vc.nil) (vg := Vc.nil) (vx := Vc.nil) rfl _ _ w.heap.size rfl R4) rfl ⟨B4.out, .inr ⟨d, hd0, by rw [HP.out]; exact HBad.out hd0, rfl⟩⟩
theorem tparse_any (s : ByteArray) (hs : s.size ≤ 1099511627776) (w : World) : Calls Try.prog 10 #[.string s] w (ParsePost s w) := by
  by_cases hc : pc s = 0
  · exact tparse_ok s hs w hc (pk_may hc)
  · exact tparse_bad s hs w hc
end Go.Proofs.Ytibngfpjdookkaa
