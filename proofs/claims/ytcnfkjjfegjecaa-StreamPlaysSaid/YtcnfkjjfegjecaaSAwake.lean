/- The law's awake. -/
import Derived.Test.YtcnfkjjfegjecaaSAbs
set_option linter.unusedVariables false
set_option linter.unusedSimpArgs false
namespace Go.Proofs.Ytcnfkjjfegjecaa
open Go.RowKit Go.Sort Go.Maps

def mq (q : Int) : Mg := { zeroG with q := q }
theorem mq_deps (q : Int) (w : World) : DpIn w (mq q) := ⟨rfl, fun h => absurd h (Nat.lt_irrefl 0)⟩
def st1 : Sm Mg := ⟨4, 0, [mq 2]⟩
def st2 : Sm Mg := ⟨4, 2, []⟩
theorem aw1 : takeS sqG (newS 4) (mq 2) = st1 ∧ outS sqG (newS 4) (mq 2) = [] ∧ codeS sqG (newS 4) (mq 2) = 0 := ⟨rfl, rfl, rfl⟩
theorem aw2 : takeS sqG st1 (mq 1) = st2 ∧ outS sqG st1 (mq 1) = [mq 1, mq 2] ∧ codeS sqG st1 (mq 1) = 0 := ⟨rfl, rfl, rfl⟩
theorem aw3 : takeS sqG st2 (mq 2) = st2 ∧ outS sqG st2 (mq 2) = [] ∧ codeS sqG st2 (mq 2) = 12 := ⟨rfl, rfl, rfl⟩
theorem aw4 : takeS sqG st2 (mq 7) = st2 ∧ outS sqG st2 (mq 7) = [] ∧ codeS sqG st2 (mq 7) = 6 := ⟨rfl, rfl, rfl⟩
theorem st0_inv : SmInv sqG (newS 4) := newS_inv 4
theorem st1_inv : SmInv sqG st1 := by have := take_inv sqG st0_inv (mq 2); rw [aw1.1] at this; exact this
theorem st2_inv : SmInv sqG st2 := by have := take_inv sqG st1_inv (mq 1); rw [aw2.1] at this; exact this
/-- One of awake's calls. -/
def AwTook (w : World) (F : Nat → Prop) (g b : Nat) (S' : Sm Mg) (n : Nat) (k : Int) (out : List Mg) (e : Ending) (w' : World) : Prop :=
  ∃ (ao : Option Addr) (cap : Nat), e = .returned (.tuple #[.slice ao n cap, .int .i64 k]) ∧ SmRep w' F g b S' ∧ OutAt w' F w.heap.size ao cap out ∧ Mv g b w w'
theorem awtake {w : World} {F : Nat → Prop} {g b : Nat} {S S' : Sm Mg} (h : SmRep w F g b S) (hI : SmInv sqG S) (hc : S.count ≤ 1000000) (q : Int) (q0 : 0 ≤ q) (q1 : q < 4294967296) {out : List Mg} {k : Nat} (h1 : takeS sqG S (mq q) = S') (h2 : outS sqG S (mq q) = out) (h3 : codeS sqG S (mq q) = k) :
    Calls Try.prog 11 #[.pointer (some ⟨g, 0, none⟩), .agg #[.int .i64 0, .int .u32 q, .int .u64 0, .int .i64 0, .slice none 0 0, .string { data := #[] }]] w (AwTook w F g b S' out.length k out) := by
  have := stake_any h hI (mq q) (mq_deps q w) q0 q1 (Nat.zero_le _) hc
  unfold TookPost at this
  rw [h1, h2, h3] at this
  exact this
/-- The first one of a row that is handed out. -/
theorem OutAt.first {w : World} {F : Nat → Prop} {base : Nat} {ao : Option Addr} {cap : Nat} {m : Mg} {l : List Mg} (h : OutAt w F base ao cap (m :: l)) : ∃ k, ao = some ⟨k, 0, none⟩ ∧ base ≤ k ∧ k < w.heap.size ∧ w.cell? ⟨k, 1, none⟩ = some (.int .u32 m.q) := by
  obtain ⟨L, hO, hl, hE⟩ := h
  have HL := own_lst' encG_length hl hO
  obtain ⟨k, o, e, R⟩ := HL.src (by simp)
  subst e
  cases L with
  | nil => simp at hl
  | cons x L =>
    have hx := hE 0 x m rfl rfl
    rcases own_cases hO with ⟨e, _⟩ | ⟨g, c, e, _⟩
    · cases e
    · injection e with e; injection e with e; injection e with e1 e2
      subst e1 e2
      have c1 := R 0 x rfl 1 _ rfl
      refine ⟨k, rfl, own_behind hO k rfl, own_lt hO, ?_⟩
      simp only [Nat.zero_mul, Nat.zero_add] at c1
      rw [c1, hx.1.q]
set_option maxHeartbeats 4000000 in
set_option maxRecDepth 100000 in
theorem sawake (w : World) : Calls Try.prog 7 #[] w fun e w' => e = .returned (.bool true) ∧ Below w.heap.size w w' := by
  have hn := snew_any 4 w (by decide) (by decide)
  go_enter Try.func7, Try.ntmps7
  go_wp2_with fail
  refine hn.mono ?_
  rintro e w1 ⟨rfl, R1, L1⟩
  have T1 := awtake R1 st0_inv (by decide) 2 (by decide) (by decide) aw1.1 aw1.2.1 aw1.2.2
  have HL1 := Lib.hid L1
  clear hn R1 L1
  go_wp2_with fail
  refine T1.mono ?_
  rintro e w2 ⟨a2, k2, rfl, R2, O2, M2⟩
  have hb4 := R2.lt
  have T2 := awtake R2 st1_inv (by decide) 1 (by decide) (by decide) aw2.1 aw2.2.1 aw2.2.2
  have HL2 := Lib.hid (HL1.out.trans (M2.below HL1.out.size (by omega) (Nat.le_refl _)))
  clear T1 R2 O2 M2 HL1
  go_wp2_with fail
  refine T2.mono ?_
  rintro e w3 ⟨a3, k3, rfl, R3, O3, M3⟩
  obtain ⟨kb, rfl, hb1, hb2, hb3⟩ := O3.first
  have T3 := awtake R3 st2_inv (by decide) 2 (by decide) (by decide) aw3.1 aw3.2.1 aw3.2.2
  have HL3 := Lib.hid (HL2.out.trans (M3.below HL2.out.size (by omega) (Nat.le_refl _)))
  have HB3 : Hid (w3.cell? ⟨kb, 1, none⟩ = some (.int .u32 1)) := Lib.hid hb3
  clear T2 R3 O3 M3 HL2 hb3
  go_wp2_with fail
  refine T3.mono ?_
  rintro e w4 ⟨a4, k4, rfl, R4, O4, M4⟩
  have T4 := awtake R4 st2_inv (by decide) 7 (by decide) (by decide) aw4.1 aw4.2.1 aw4.2.2
  have HL4 := Lib.hid (HL3.out.trans (M4.below HL3.out.size (by omega) (Nat.le_refl _)))
  have HB4 : Hid (w4.cell? ⟨kb, 1, none⟩ = some (.int .u32 1)) := Lib.hid ((World.cell?_of_block (w := w3) (M4.block kb hb2 (by omega) (by omega))).trans HB3.out)
  have hs4 := M4.size
  clear T3 R4 O4 M4 HL3 HB3
  go_wp2_with fail
  refine T4.mono ?_
  rintro e w5 ⟨a5, k5, rfl, R5, O5, M5⟩
  have HL5 := Lib.hid (HL4.out.trans (M5.below HL4.out.size (by omega) (Nat.le_refl _)))
  have hc1 : w5.cell? ⟨kb, 1, none⟩ = some (.int .u32 1) := (World.cell?_of_block (w := w4) (M5.block kb (by omega) (by omega) (by omega))).trans HB4.out
  have LA : Calls Try.prog 13 #[.pointer (some ⟨w.heap.size + 1, 0, none⟩), .int .u32 3] w5 fun e w' => e = .returned (.tuple #[.int .u32 3, .bool true]) ∧ w5 = w' := slacks_any R5 3 (by decide)
  have CO : Calls Try.prog 16 #[.pointer (some ⟨w.heap.size + 1, 0, none⟩)] w5 fun e w' => e = .returned (.int .u32 2) ∧ w5 = w' := scount_any R5
  have HE : Calls Try.prog 17 #[.pointer (some ⟨w.heap.size + 1, 0, none⟩)] w5 fun e w' => e = .returned (.int .i64 0) ∧ w5 = w' := sheld_any R5
  clear T4 R5 O5 M5 HL4 HB4
  simp only [List.length_cons, List.length_nil]
  go_wp2_with (first
    | (go_at_call 13; refine LA.mono ?_; rintro e w6 ⟨rfl, rfl⟩)
    | (go_at_call 16; refine CO.mono ?_; rintro e w6 ⟨rfl, rfl⟩)
    | (go_at_call 17; refine HE.mono ?_; rintro e w6 ⟨rfl, rfl⟩))
  go_ret
  exact ⟨rfl, HL5.out⟩
end Go.Proofs.Ytcnfkjjfegjecaa
