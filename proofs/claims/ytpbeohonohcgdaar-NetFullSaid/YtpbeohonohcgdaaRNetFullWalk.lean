/- The walk of 'NetFull'. -/
import Derived.Test.YtpbeohonohcgdaaRNetOpen
set_option linter.unusedVariables false
set_option linter.unusedSimpArgs false
namespace Go.Proofs.YtpbeohonohcgdaaR
open Go.RowKit Go.Sort

/-- How much longer the row is behind an act. -/
inductive Gap (kk ii : Int) (n n' : Nat) : Prop where
  | a0 (h : kk = 0) (g : (n' : Int) - n = 0)
  | a1 (h : kk = 0) (g : (n' : Int) - n = 1)
  | d0 (h : kk = 3) (g : (n' : Int) - n = 0)
  | d1 (h : kk = 3) (g : (n' : Int) - n = 1)
  | t (h : kk = 1) (g : (n' : Int) - n = -1)
  | tl (h : kk = 1) (g : (n' : Int) - n = 0) (l : ¬ 0 ≤ ii)
  | th (h : kk = 1) (g : (n' : Int) - n = 0) (l : 0 ≤ ii) (u : ¬ ii < n)
  | r (h : kk = 2) (g : (n' : Int) - n = -1)
  | rl (h : kk = 2) (g : (n' : Int) - n = 0) (l : ¬ 0 ≤ ii)
  | rh (h : kk = 2) (g : (n' : Int) - n = 0) (l : 0 ≤ ii) (u : ¬ ii < n)
  | o (h0 : kk ≠ 0) (h1 : kk ≠ 1) (h2 : kk ≠ 2) (h3 : kk ≠ 3) (g : (n' : Int) - n = 0)
theorem drop_len (N : Nt) (i : Int) : (hasB N.rows.length i = true ∧ ((dropN N i).rows.length : Int) - N.rows.length = -1) ∨ (hasB N.rows.length i = false ∧ dropN N i = N) := by
  cases hi : hasB N.rows.length i
  · right; exact ⟨rfl, by unfold dropN; rw [hi, if_neg (by decide)]⟩
  · left
    obtain ⟨k, rfl, hk⟩ := hasB_yes hi
    refine ⟨rfl, ?_⟩
    unfold dropN
    rw [hi, if_pos rfl]
    show ((N.rows.eraseIdx ((k : Int).toNat)).length : Int) - _ = _
    rw [Int.toNat_natCast, List.length_eraseIdx_of_lt hk]
    omega
theorem not_has {n : Nat} {i : Int} (h : hasB n i = false) : ¬ 0 ≤ i ∨ (0 ≤ i ∧ ¬ i < n) := by
  unfold hasB at h
  by_cases h0 : 0 ≤ i
  · right
    refine ⟨h0, fun h1 => ?_⟩
    rw [decide_eq_true h0, decide_eq_true h1] at h
    cases h
  · exact .inl h0
theorem step_gap (N : Nt) (a : Ac) : Gap a.kind a.i N.rows.length (stepN N a).rows.length := by
  unfold stepN
  by_cases k0 : a.kind = 0
  · rw [if_pos k0]
    unfold sendN
    split
    · exact .a1 k0 (by simp; omega)
    · exact .a0 k0 (by omega)
  rw [if_neg k0]
  by_cases k1 : a.kind = 1
  · rw [if_pos k1]
    rcases drop_len N a.i with ⟨_, h⟩ | ⟨h1, h⟩
    · exact .t k1 h
    · rw [h]
      rcases not_has h1 with h2 | ⟨h2, h3⟩
      · exact .tl k1 (by omega) h2
      · exact .th k1 (by omega) h2 h3
  rw [if_neg k1]
  by_cases k2 : a.kind = 2
  · rw [if_pos k2]
    rcases drop_len N a.i with ⟨_, h⟩ | ⟨h1, h⟩
    · exact .r k2 h
    · rw [h]
      rcases not_has h1 with h2 | ⟨h2, h3⟩
      · exact .rl k2 (by omega) h2
      · exact .rh k2 (by omega) h2 h3
  rw [if_neg k2]
  by_cases k3 : a.kind = 3
  · rw [if_pos k3]
    unfold doubleN
    split
    · exact .d1 k3 (by simp; omega)
    · exact .d0 k3 (by omega)
  rw [if_neg k3]
  refine .o k0 k1 k2 k3 ?_
  split
  · unfold turnN
    split
    · split
      · show ((List.set _ _ _).length : Int) - _ = _
        rw [List.length_set]; omega
      · omega
    · omega
  · split
    · show (N.rows.length : Int) - _ = _
      omega
    · split
      · show (N.rows.length : Int) - _ = _
        omega
      · omega

def noneD : Dg := ⟨0, 0, { data := #[] }, false⟩
theorem noneD_ok : noneD.ok := ⟨by decide, by decide, by decide, by decide, by decide⟩
theorem Gone.below {w w' : World} {g B : Nat} {N N' : Nt} {ao : Option Addr} {cap : Nat} (h : NetAt w g B N ao cap) (G : Gone w g B N' ao w') {B' : Nat} (hB : B' ≤ B) : Go.RowKit.Below B' w w' := by
  obtain ⟨_, _, _, m⟩ := G
  exact m.below h hB

set_option maxHeartbeats 8000000 in
set_option maxRecDepth 100000 in
theorem full_NetFull (n : Int) (h0 : -9223372036854775808 ≤ n) (h1 : n ≤ 9223372036854775807) (ao : Option Addr) (len cap : Nat) (l : List Ac) (w : World) (hl : Lst encAc 9 w ao len l) (hle : len ≤ maxLen) (hok : ∀ m ∈ l, m.ok) (many : Nat) (hmany : many < 65536) :
    Calls Try.prog 6 #[.int .i64 n, .slice ao len cap, .int .u16 (many : Nat)] w fun e w' => e = .returned (.bool true) ∧ Below w.heap.size w w' := by
  have hlen := hl.size
  have HL := Lib.hid hl
  have HOK := Lib.hid hok
  clear hl hok
  go_enter Try.func6, Try.ntmps6
  go_wp2_with fail
  refine (nawake _).mono ?_
  rintro e w1 ⟨rfl, L1⟩
  go_wp2_with fail
  refine (nfew ao len cap l w1 (HL.out.below L1) hle HOK.out).mono ?_
  rintro e w' ⟨⟨bf, rfl⟩, rfl⟩
  cases bf
  · go_wp2
    go_ret
    exact ⟨rfl, L1⟩
  go_wp2_with (go_at_call 9; refine (nnew n w1 h0 h1).mono ?_; rintro e w2 ⟨rfl, A2, L2'⟩)
  have L2 := L1.trans (L2'.mono L1.size)
  clear L2'
  have hs1 := L1.size
  generalize w1.heap.size = g at *
  clear L1
  unfold maxLen at hle
  go_loopw [8] (fun i wr => ∃ (k : Nat) (N : Nt) (ao' : Option Addr) (cap' : Nat), k ≤ many ∧ i = .int .i64 k ∧ NetAt wr g g N ao' cap' ∧ Below w.heap.size w wr) (fun i _ => many - (intOf i).toNat)
  case atStart => exact ⟨0, _, _, _, Nat.zero_le _, rfl, A2, L2⟩
  case round =>
    obtain ⟨k, N, ao', cap', hk, rfl, A, L⟩ := hrel
    clear A2 L2
    by_cases hlt : k < many
    · have HC : Hid (Calls Try.prog 21 #[.pointer (some ⟨g, 0, none⟩), .agg #[.int .i64 0, .int .i64 0, .string { data := #[] }, .bool false]] wr fun e w' => SomeI e ∧ Gone wr g g (sendN N noneD) ao' w') := Lib.hid (nsend_any A noneD noneD_ok)
      have HA := Lib.hid A
      have HLL := Lib.hid L
      clear A L
      go_wp2_with (go_at_call 21; refine HC.out.mono ?_; rintro e w' ⟨⟨c, rfl⟩, G⟩; (have HG := Lib.hid G); clear G)
      go_roundw
      case rel =>
        have L' := HLL.out.trans (Gone.below HA.out HG.out hs1)
        obtain ⟨a2, c2, A2, _⟩ := HG.out
        exact ⟨k + 1, _, a2, c2, by omega, by go_num, A2, L'⟩
      case measure => simp [intOf]; omega
    · go_wp2
      go_loopw [9] (fun i wr => ∃ (k : Nat) (N : Nt) (ao' : Option Addr) (cap' : Nat), k ≤ len ∧ i = .int .i64 k ∧ NetAt wr g g N ao' cap' ∧ Below w.heap.size w wr) (fun i _ => len - (intOf i).toNat)
      case atStart => exact ⟨0, _, _, _, Nat.zero_le _, rfl, A, L⟩
      case round =>
        obtain ⟨q, M, ao2, cap2, hq, rfl, A1, L1⟩ := hrel
        clear A L
        by_cases hlt2 : q < len
        · have hql : q < l.length := by omega
          have S1 := HL.out.below L1
          obtain ⟨b, o, rfl, R⟩ := S1.src (by omega)
          have hx := List.getElem?_eq_getElem hql
          have ha := HOK.out _ (List.getElem_mem hql)
          generalize l[q] = a at hx ha
          obtain ⟨c0, c1, c2, c3, c4, c5, c6, c7, c8⟩ := lst_at (len := len) R q a hx
          have HX := Lib.hid hx
          have HN1 := nlen A1
          have HACT : Hid (Calls Try.prog 10 #[.pointer (some ⟨g, 0, none⟩), .agg #[.int .i64 a.kind, .int .i64 a.d.frm, .int .i64 a.d.to, .string a.d.data, .bool a.d.torn, .int .i64 a.i, .int .i64 a.at_, .int .u8 (a.mask : Int), .int .u64 (a.s : Int)]] wr fun e w' => e = .returned (.tuple #[]) ∧ Gone wr g g (stepN M a) ao2 w') := Lib.hid (nact A1 a ha)
          have HA1 := Lib.hid A1
          have HL1 := Lib.hid L1
          have GP := step_gap M a
          have F1 := A1.few
          have ki := ha.i0
          have ki1 := ha.i1
          have kk0 := ha.k0
          have kk1 := ha.k1
          clear A1 L1 S1 R hx ha hql
          go_upto_region 15 with (first | (go_at_call 19; refine HN1.mono ?_; rintro e w' ⟨rfl, rfl⟩) | (go_at_call 10; refine HACT.out.mono ?_; rintro e w3 ⟨rfl, G⟩))
          have L3 := HL1.out.trans (Gone.below HA1.out G hs1)
          obtain ⟨ao3, cap3, A3, _⟩ := G
          obtain ⟨b', o', e', R'⟩ := (HL.out.below L3).src (by omega)
          cases e'
          obtain ⟨a', hx', hk', hi'⟩ : ∃ a', l[q]? = some a' ∧ a'.kind = a.kind ∧ a'.i = a.i := ⟨a, HX.out, rfl, rfl⟩
          obtain ⟨e0, _, _, _, _, e5, _⟩ := lst_at (len := len) R' q a' hx'
          rw [hk'] at e0
          rw [hi'] at e5
          have HN3 := nlen A3
          have F3 := A3.few
          have HA3 := Lib.hid A3
          have HL3 := Lib.hid L3
          clear A3 L3 R' hx' hk' hi' c0 c1 c2 c3 c4 c5 c6 c7 c8 HN1 HACT
          generalize hm3 : (stepN M a).rows.length = m3 at *
          generalize M.rows.length = m at *
          generalize a.kind = kk at *
          generalize a.i = ii at *
          have hd4 : decide ((4096 : Int) < (m3 : Int)) = false := by simp; omega
          have hm3 := Lib.hid hm3
          cases GP
          case a0 h g =>
            subst h
            go_wp2_with (go_at_call 19; refine HN3.mono ?_; rintro e w' ⟨rfl, rfl⟩)
            go_roundw
            case rel => exact ⟨q + 1, _, ao3, cap3, by omega, by go_num, HA3.out, HL3.out⟩
            case measure => simp [intOf]; omega
          case a1 h g =>
            subst h
            go_wp2_with (go_at_call 19; refine HN3.mono ?_; rintro e w' ⟨rfl, rfl⟩)
            go_roundw
            case rel => exact ⟨q + 1, _, ao3, cap3, by omega, by go_num, HA3.out, HL3.out⟩
            case measure => simp [intOf]; omega
          case d0 h g =>
            subst h
            go_wp2_with (go_at_call 19; refine HN3.mono ?_; rintro e w' ⟨rfl, rfl⟩)
            go_roundw
            case rel => exact ⟨q + 1, _, ao3, cap3, by omega, by go_num, HA3.out, HL3.out⟩
            case measure => simp [intOf]; omega
          case d1 h g =>
            subst h
            go_wp2_with (go_at_call 19; refine HN3.mono ?_; rintro e w' ⟨rfl, rfl⟩)
            go_roundw
            case rel => exact ⟨q + 1, _, ao3, cap3, by omega, by go_num, HA3.out, HL3.out⟩
            case measure => simp [intOf]; omega
          case t h g =>
            subst h
            go_wp2_with (go_at_call 19; refine HN3.mono ?_; rintro e w' ⟨rfl, rfl⟩)
            go_roundw
            case rel => exact ⟨q + 1, _, ao3, cap3, by omega, by go_num, HA3.out, HL3.out⟩
            case measure => simp [intOf]; omega
          case tl h g l =>
            subst h
            have l1 : decide ((0 : Int) ≤ ii) = false := by simpa using l
            clear l
            go_wp2_with (go_at_call 19; refine HN3.mono ?_; rintro e w' ⟨rfl, rfl⟩)
            go_roundw
            case rel => exact ⟨q + 1, _, ao3, cap3, by omega, by go_num, HA3.out, HL3.out⟩
            case measure => simp [intOf]; omega
          case th h g l u =>
            subst h
            have u1 : decide (ii < (m : Int)) = false := by simpa using u
            clear u
            go_wp2_with (go_at_call 19; refine HN3.mono ?_; rintro e w' ⟨rfl, rfl⟩)
            go_roundw
            case rel => exact ⟨q + 1, _, ao3, cap3, by omega, by go_num, HA3.out, HL3.out⟩
            case measure => simp [intOf]; omega
          case r h g =>
            subst h
            go_wp2_with (go_at_call 19; refine HN3.mono ?_; rintro e w' ⟨rfl, rfl⟩)
            go_roundw
            case rel => exact ⟨q + 1, _, ao3, cap3, by omega, by go_num, HA3.out, HL3.out⟩
            case measure => simp [intOf]; omega
          case rl h g l =>
            subst h
            have l1 : decide ((0 : Int) ≤ ii) = false := by simpa using l
            clear l
            go_wp2_with (go_at_call 19; refine HN3.mono ?_; rintro e w' ⟨rfl, rfl⟩)
            go_roundw
            case rel => exact ⟨q + 1, _, ao3, cap3, by omega, by go_num, HA3.out, HL3.out⟩
            case measure => simp [intOf]; omega
          case rh h g l u =>
            subst h
            have u1 : decide (ii < (m : Int)) = false := by simpa using u
            clear u
            go_wp2_with (go_at_call 19; refine HN3.mono ?_; rintro e w' ⟨rfl, rfl⟩)
            go_roundw
            case rel => exact ⟨q + 1, _, ao3, cap3, by omega, by go_num, HA3.out, HL3.out⟩
            case measure => simp [intOf]; omega
          case o h0 h1 h2 h3 g =>
            have k0 : (kk == 0) = false := by simp [h0]
            have k1 : (kk == 1) = false := by simp [h1]
            have k2 : (kk == 2) = false := by simp [h2]
            have k3 : (kk == 3) = false := by simp [h3]
            clear h0 h1 h2 h3
            go_wp2_with (go_at_call 19; refine HN3.mono ?_; rintro e w' ⟨rfl, rfl⟩)
            go_roundw
            case rel => exact ⟨q + 1, _, ao3, cap3, by omega, by go_num, HA3.out, HL3.out⟩
            case measure => simp [intOf]; omega
        · have HN1 := nlen A1
          have HL1 := Lib.hid L1
          have F1 := A1.few
          generalize M.rows.length = m at *
          have hd : decide ((m : Int) ≤ 4096) = true := by simp; omega
          clear A1 L1
          go_wp2_with (go_at_call 19; refine HN1.mono ?_; rintro e w' ⟨rfl, rfl⟩)
          go_ret
          exact ⟨rfl, HL1.out⟩
theorem walk_NetFull {w : World} (n : Int) (wn : (Lit.int .i64 n).wf = true) (ao : Option Addr) (len cap : Nat) (l : List Ac) (hl : Lst encAc 9 w ao len l ∧ len ≤ maxLen ∧ ∀ m ∈ l, m.ok) (many : Int) (wm : (Lit.int .u16 many).wf = true) :
    Calls Try.prog 6 #[.int .i64 n, .slice ao len cap, .int .u16 many] w fun e w' => e = .returned (.bool true) ∧ Below w.heap.size w w' := by
  have b0 := Go.bounds_i64 wn
  have b1 : 0 ≤ many ∧ many ≤ 65535 := by simpa [Lit.wf, IntKind.min, IntKind.max, IntKind.signed, IntKind.bits] using wm
  obtain ⟨m, rfl⟩ := Int.eq_ofNat_of_zero_le b1.1
  exact full_NetFull n (by omega) (by omega) ao len cap l w hl.1 hl.2.1 hl.2.2 m (by omega)
end Go.Proofs.YtpbeohonohcgdaaR
