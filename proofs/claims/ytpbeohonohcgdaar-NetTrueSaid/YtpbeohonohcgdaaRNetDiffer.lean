/- How many bytes of two texts differ. -/
import Derived.Test.YtpbeohonohcgdaaRNetOpen
set_option linter.unusedVariables false
set_option linter.unusedSimpArgs false
namespace Go.Proofs.YtpbeohonohcgdaaR
open Go.RowKit Go.Sort

def diffK (a b : List Nat) (k : Nat) : Nat := (List.range k).countP fun j => a.getD j 0 != b.getD j 0
theorem diffK_succ (a b : List Nat) (k : Nat) : diffK a b (k + 1) = diffK a b k + if a.getD k 0 = b.getD k 0 then 0 else 1 := by
  unfold diffK
  rw [List.range_succ, List.countP_append]
  by_cases h : a.getD k 0 = b.getD k 0
  · rw [if_pos h]; simp only [List.countP_cons, List.countP_nil, h, bne_self_eq_false]; rfl
  · rw [if_neg h]; simp only [List.countP_cons, List.countP_nil, bne_iff_ne, ne_eq, h, not_false_iff, if_true]
theorem diffK_le (a b : List Nat) (k : Nat) : diffK a b k ≤ k := by
  unfold diffK
  have := List.countP_le_length (p := fun j => a.getD j 0 != b.getD j 0) (l := List.range k)
  simpa using this
/-- What 'differ' answers. -/
def gapS (a b : ByteArray) : Int := if a.size = b.size then (diffK (nats a) (nats b) a.size : Nat) else -1
theorem diffK_same (a : List Nat) (k : Nat) : diffK a a k = 0 := by
  unfold diffK
  rw [List.countP_eq_zero]
  intro x _
  simp
theorem gap_same (s : ByteArray) : gapS s s = 0 := by
  unfold gapS; rw [if_pos rfl, diffK_same]; rfl
theorem diffK_set (a : List Nat) (p x : Nat) (hx : a.getD p 0 ≠ x) (hp : p < a.length) : ∀ k, diffK a (a.set p x) k = if p < k then 1 else 0
  | 0 => by simp [diffK]
  | k + 1 => by
    rw [diffK_succ, diffK_set a p x hx hp k]
    have e : (a.set p x).getD k 0 = if p = k then x else a.getD k 0 := by
      rw [List.getD_eq_getElem?_getD, List.getElem?_set]
      by_cases h : p = k
      · rw [if_pos h, if_pos h, if_pos hp]; rfl
      · rw [if_neg h, if_neg h, List.getD_eq_getElem?_getD]
    rw [e]
    by_cases h : p = k
    · subst h
      rw [if_pos rfl, if_neg (Nat.lt_irrefl _), if_neg hx, if_pos (Nat.lt_succ_self _)]
    · rw [if_neg h, if_pos rfl]
      by_cases h2 : p < k
      · rw [if_pos h2, if_pos (by omega)]
      · rw [if_neg h2, if_neg (by omega)]
theorem xor_ne (a m : Nat) (hm : m ≠ 0) : a ≠ a ^^^ m := by
  intro h
  apply hm
  have : a ^^^ (a ^^^ m) = a ^^^ a := by rw [← h]
  rw [← Nat.xor_assoc, Nat.xor_self, Nat.zero_xor] at this
  exact this
theorem gap_turn (s : ByteArray) (p m : Nat) (hp : p < s.size) (hm : m < 256) (hm0 : m ≠ 0) : gapS s (turnS s p m) = 1 := by
  unfold gapS
  rw [turnS_size, if_pos rfl, turnS_nats s p m hm, diffK_set _ _ _ (xor_ne _ _ hm0) (by rw [nats_length]; exact hp), if_pos hp]
  rfl
theorem getD_byte (s : ByteArray) (k : Nat) (h : k < s.size) : (nats s).getD k 0 = s[k].toNat := by
  rw [List.getD_eq_getElem?_getD, nats_at h]; rfl

set_option maxHeartbeats 2000000 in
set_option maxRecDepth 100000 in
theorem ndiffer (a b : ByteArray) (w : World) (ha : a.size ≤ maxLen) (hb : b.size ≤ maxLen) :
    Calls Try.prog 12 #[.string a, .string b] w fun e w' => e = .returned (.int .i64 (gapS a b)) ∧ ∃ n, w' = w.drewN n := by
  by_cases hs : a.size = b.size
  · have HG := Lib.hid (show gapS a b = (diffK (nats a) (nats b) a.size : Nat) by unfold gapS; rw [if_pos hs])
    have hne : ((a.size : Int) != (b.size : Int)) = false := by simp; omega
    have hne2 : (a.size : Int) = (b.size : Int) := by omega
    have HK := Lib.hid (diffK_le (nats a) (nats b))
    have HS := Lib.hid hs
    clear hne2
    unfold maxLen at ha
    clear hb
    go_enter Try.func12, Try.ntmps12
    go_wp2
    clear hs hne
    go_loopw [5, 6] (fun n i wr => ∃ k : Nat, k ≤ a.size ∧ i = .int .i64 k ∧ n = .int .i64 (diffK (nats a) (nats b) k : Nat) ∧ ∃ q, wr = w.drewN q) (fun _ i _ => a.size - (intOf i).toNat)
    case atStart => exact ⟨0, Nat.zero_le _, rfl, rfl, 0, rfl⟩
    case round =>
      obtain ⟨k, hk, rfl, rfl, q, rfl⟩ := hrel
      by_cases hlt : k < a.size
      · have hlt2 : k < b.size := by rw [← HS.out]; exact hlt
        have HN := Lib.hid (diffK_succ (nats a) (nats b) k)
        have H1 := Lib.hid (getD_byte a k hlt)
        have H2 := Lib.hid (getD_byte b k hlt2)
        have hle := HK.out k
        by_cases hx : a[k].toNat = b[k].toNat
        · have HX := Lib.hid (show diffK (nats a) (nats b) (k + 1) = diffK (nats a) (nats b) k by rw [HN.out, H1.out, H2.out, if_pos hx]; rfl)
          have hd : ((a[k].toNat : Int) != (b[k].toNat : Int)) = false := by simp; omega
          clear HN H1 H2 hx
          generalize diffK (nats a) (nats b) k = d at *
          go_wp2_with fail
          go_quiet (fail)
          go_wp2
          go_roundw
          case rel => exact ⟨k + 1, by omega, by go_num, by rw [HX.out], _, rfl⟩
          case measure => simp [intOf]; omega
        · have HX := Lib.hid (show diffK (nats a) (nats b) (k + 1) = diffK (nats a) (nats b) k + 1 by rw [HN.out, H1.out, H2.out, if_neg hx])
          have hd : ((a[k].toNat : Int) != (b[k].toNat : Int)) = true := by simp; omega
          clear HN H1 H2 hx
          generalize diffK (nats a) (nats b) k = d at *
          go_wp2_with fail
          go_quiet (fail)
          go_wp2
          go_roundw
          case rel => exact ⟨k + 1, by omega, by go_num, by rw [HX.out]; go_num, _, rfl⟩
          case measure => simp [intOf]; omega
      · obtain rfl : k = a.size := by omega
        go_wp2
        go_ret
        exact ⟨by rw [HG.out]; rfl, _, rfl⟩
  · have HG := Lib.hid (show gapS a b = -1 by unfold gapS; rw [if_neg hs])
    have hne : ((a.size : Int) != (b.size : Int)) = true := by simp; omega
    have hne2 : ¬ (a.size : Int) = (b.size : Int) := by omega
    clear hs
    go_enter Try.func12, Try.ntmps12
    go_wp2
    go_ret
    exact ⟨by rw [HG.out]; rfl, 0, rfl⟩
end Go.Proofs.YtpbeohonohcgdaaR
