/- Layer 15: the document's own answers: At, Whole, Holder, Set. -/
import Derived.Test.YtfocjcdfpnbkjaaPlMore
import Derived.Test.YtfocjcdfpnbkjaaSetFns
set_option linter.unusedVariables false
set_option maxRecDepth 100000
set_option linter.unusedSimpArgs false
namespace Go.Proofs.Ytfocjcdfpnbkjaa
open Go.RowKit Go.Sort Go.Shelf Go.Maps

/-- A vector's number at a place. -/
def atL (cnt : List Int) (p : Int) : Int := if 0 ≤ p then cnt.getD p.toNat 0 else 0
theorem refAt {w : World} {ao : Option Addr} {n : Nat} {cnt : List Int} (c : Nat) (h : Lst (fun n : Int => [.int .u32 n]) 1 w ao n cnt) (p : Int) :
    Calls Try.prog 53 #[.slice ao n c, .int .i64 p] w fun e w' => e = .returned (.int .u32 (atL cnt p)) ∧ w = w' := by
  by_cases h0 : p < 0
  · rw [show atL cnt p = 0 by unfold atL; rw [if_neg (by omega)]]
    clear h
    go_enter Try.func53, Try.ntmps53
    go_wp2
    go_ret
    exact ⟨rfl, rfl⟩
  · obtain ⟨k, rfl⟩ := Int.eq_ofNat_of_zero_le (show 0 ≤ p by omega)
    by_cases hk : k < n
    · obtain ⟨b, o, rfl, hr⟩ := h.src (by omega)
      have hkl : k < cnt.length := by rw [h.size]; exact hk
      obtain ⟨z, hz⟩ : ∃ z, cnt[k]? = some z := ⟨_, List.getElem?_eq_getElem hkl⟩
      have e0 : w.cell? ⟨b, o + k, none⟩ = some (.int .u32 z) := by
        have := hr k z hz 0 _ rfl
        simpa using this
      rw [show atL cnt (k : Int) = z by unfold atL; rw [if_pos (by omega), Int.toNat_natCast, List.getD_eq_getElem?_getD, hz]; rfl]
      clear h hr hkl hz
      go_enter Try.func53, Try.ntmps53
      go_wp2
      go_ret
      exact ⟨rfl, rfl⟩
    · rw [show atL cnt (k : Int) = 0 by unfold atL; rw [if_pos (by omega), Int.toNat_natCast, List.getD_eq_getElem?_getD, List.getElem?_eq_none (by rw [h.size]; omega)]; rfl]
      clear h
      go_enter Try.func53, Try.ntmps53
      go_wp2
      go_ret
      exact ⟨rfl, rfl⟩
theorem whole_in (f : Nat → Wh) (q : Int) (h0 : 0 ≤ q) (h1 : q < 64) : wholeP f q = (f q.toNat).n := by unfold wholeP; rw [if_pos ⟨h0, h1⟩]
theorem atL_in (cnt : List Int) (q : Int) (h0 : 0 ≤ q) : atL cnt q = cnt.getD q.toNat 0 := by unfold atL; rw [if_pos h0]
theorem whole_snoc (C : List Xg) (x : Xg) (q : Int) (h0 : 0 ≤ q) (h1 : q < 64) : wholeP (whL (C ++ [x])) q = if wholeP (whL C) q < atL x.cnt q then atL x.cnt q else wholeP (whL C) q := by
  rw [whL_snoc, whole_in _ _ h0 h1, whole_in _ _ h0 h1, atL_in _ _ h0]
  unfold whX wh1
  rw [if_pos (by omega)]
  unfold better Xg.of
  by_cases hl : (whL C q.toNat).n < x.cnt.getD q.toNat 0
  · rw [if_pos hl, decide_eq_true hl]; simp
  · rw [if_neg hl, decide_eq_false hl]
    by_cases he : x.cnt.getD q.toNat 0 = (whL C q.toNat).n
    · simp only [Bool.false_or]
      split
      · exact he
      · rfl
    · rw [decide_eq_false he]; simp
theorem whole_nil (q : Int) : wholeP (whL []) q = 0 := by unfold wholeP whL whZ; simp
theorem take_snoc15 {α : Type} {l : List α} {k : Nat} {x : α} (h : l[k]? = some x) : l.take (k + 1) = l.take k ++ [x] := by rw [List.take_add_one, h]; rfl
set_option maxHeartbeats 1000000 in
theorem refWhole {w : World} {ao : Option Addr} {n : Nat} {C : List Xg} (h : XgL w ao n C) (c : Nat) (hn : n ≤ 1048576) (q : Int) :
    Calls Try.prog 47 #[.slice ao n c, .int .i64 q] w fun e w' => e = .returned (.int .u32 (wholeP (whL C) q)) ∧ w = w' := by
  have HL := Lib.hid h
  have HLEN := Lib.hid h.at_.size
  clear h
  by_cases hq : 0 ≤ q ∧ q < 64
  · obtain ⟨q0, q1⟩ := hq
    go_enter Try.func47, Try.ntmps47
    go_wp2
    go_loop [5, 6] (fun sm si => ∃ (k : Nat), k ≤ n ∧ sm = .int .u32 (wholeP (whL (C.take k)) q) ∧ si = .int .i64 k) (fun _ si => n - (intOf si).toNat)
    case atStart => exact ⟨0, Nat.zero_le _, by rw [List.take_zero, whole_nil], rfl⟩
    case round =>
      obtain ⟨k, hk, rfl, rfl⟩ := hrel
      by_cases hlt : k < n
      · obtain ⟨b, o, x, rfl, hx, hr⟩ := HL.out.row hlt
        have c3 : w.cell? ⟨b, o + k * 6 + 3, none⟩ = some (.slice x.a x.n x.c) := hr 3 _ rfl
        have PA := refAt x.c (HL.out.in_ x (List.mem_of_getElem? hx)).1.at_ q
        have HS := Lib.hid (whole_snoc (C.take k) x q q0 q1)
        rw [← take_snoc15 hx] at HS
        generalize wholeP (whL (C.take k)) q = u at *
        obtain ⟨v, hv⟩ : ∃ v, v = atL x.cnt q := ⟨_, rfl⟩
        rw [← hv] at PA HS
        generalize x.a = xa at *
        generalize x.n = xn at *
        generalize x.c = xc at *
        clear hr hx hv
        cases hd : decide (u < v) with
        | true =>
          have HE := Lib.hid (HS.out.trans (if_pos (of_decide_eq_true hd)))
          go_wp2_with (first | (go_at_call 53; (with_reducible refine PA.mono ?_); rintro e w' ⟨rfl, rfl⟩) | fail)
          go_round
          case rel => exact ⟨k + 1, by omega, by rw [HE.out], by go_num⟩
          case measure => simp [intOf]; omega
        | false =>
          have HE := Lib.hid (HS.out.trans (if_neg (of_decide_eq_false hd)))
          go_wp2_with (first | (go_at_call 53; (with_reducible refine PA.mono ?_); rintro e w' ⟨rfl, rfl⟩) | fail)
          go_round
          case rel => exact ⟨k + 1, by omega, by rw [HE.out], by go_num⟩
          case measure => simp [intOf]; omega
      · have HT := Lib.hid (show C.take k = C from List.take_of_length_le (by rw [HLEN.out]; omega))
        have hd2 : decide ((k : Int) < (n : Int)) = false := decide_eq_false (by omega)
        go_wp2
        go_ret
        exact ⟨by rw [HT.out]; rfl, rfl⟩
  · have hz : wholeP (whL C) q = 0 := by unfold wholeP; rw [if_neg hq]
    rw [hz]
    clear hz
    have hd : decide (0 ≤ q) = false ∨ decide (q < 64) = false := by
      by_cases h0 : 0 ≤ q
      · exact .inr (decide_eq_false (fun h1 => hq ⟨h0, h1⟩))
      · exact .inl (decide_eq_false h0)
    have HD := Lib.hid hd
    clear hd hq
    go_enter Try.func47, Try.ntmps47
    go_wp2
    go_loop [5, 6] (fun sm si => ∃ k : Nat, k ≤ 0 ∧ sm = .int .u32 0 ∧ si = .int .i64 k) (fun _ si => 0)
    case atStart => exact ⟨0, Nat.le_refl _, rfl, rfl⟩
    case round =>
      obtain ⟨k, hk, rfl, rfl⟩ := hrel
      by_cases hlt : k < n
      · cases h0 : decide (0 ≤ q) with
        | false =>
          go_wp2
          go_ret
          exact ⟨rfl, rfl⟩
        | true =>
          have h1 : decide (q < 64) = false := HD.out.resolve_left (by rw [h0]; decide)
          go_wp2
          go_ret
          exact ⟨rfl, rfl⟩
      · go_wp2
        go_ret
        exact ⟨rfl, rfl⟩
/-- Amid Holder. -/
def HbSt (C : List Xg) (q u b : Int) : Prop := (b = -1 ∧ (u ≤ 0 ∨ ∀ x ∈ C, atL x.cnt q ≠ u)) ∨ (0 < u ∧ 0 ≤ b ∧ (∃ x ∈ C, atL x.cnt q = u ∧ x.w = b) ∧ ∀ x ∈ C, atL x.cnt q = u → b ≤ x.w)
theorem HbSt.skip {C : List Xg} {q u b : Int} (h : HbSt C q u b) (x : Xg) (hx : ¬ (0 < u ∧ atL x.cnt q = u ∧ (b < 0 ∨ x.w < b))) : HbSt (C ++ [x]) q u b := by
  rcases h with ⟨hb, h⟩ | ⟨h0, h1, ⟨y, hy, h2⟩, h3⟩
  · refine .inl ⟨hb, ?_⟩
    by_cases hu : u ≤ 0
    · exact .inl hu
    · refine .inr fun y hy => ?_
      rcases List.mem_append.1 hy with hy | hy
      · exact (h.resolve_left hu) y hy
      · rw [List.mem_singleton.1 hy]; exact fun he => hx ⟨by omega, he, .inl (by omega)⟩
  · refine .inr ⟨h0, h1, ⟨y, by simp [hy], h2⟩, fun z hz he => ?_⟩
    rcases List.mem_append.1 hz with hz | hz
    · exact h3 z hz he
    · rw [List.mem_singleton.1 hz] at he ⊢
      by_cases hlt : x.w < b
      · exact absurd ⟨h0, he, .inr hlt⟩ hx
      · omega
theorem HbSt.takes {C : List Xg} {q u b : Int} (h : HbSt C q u b) (x : Xg) (hu : 0 < u) (he : atL x.cnt q = u) (hb : b < 0 ∨ x.w < b) (hw : 0 ≤ x.w) : HbSt (C ++ [x]) q u x.w := by
  refine .inr ⟨hu, hw, ⟨x, by simp, he, rfl⟩, fun z hz hze => ?_⟩
  rcases List.mem_append.1 hz with hz | hz
  · rcases h with ⟨hb1, h⟩ | ⟨h0, h1, _, h3⟩
    · exact absurd hze ((h.resolve_left (by omega)) z hz)
    · have := h3 z hz hze
      omega
  · rw [List.mem_singleton.1 hz]; exact Int.le_refl _
theorem HbSt.done {w : World} {C : List Xg} {q b : Int} (hC : ∀ x ∈ C, XgIn w x ∧ 0 ≤ x.w ∧ x.w < 64) (h : HbSt C q (wholeP (whL C) q) b) : b = holdP (whL C) q := by
  unfold holdP
  unfold wholeP at h
  split
  · rename_i hq
    rw [if_pos hq] at h
    have hi := whL_is (w := w) C hC q.toNat (by omega)
    have ho := (WhOk.list C hC).lo q.toNat
    have hat : ∀ x : Xg, atL x.cnt q = x.of q.toNat := fun x => by unfold atL Xg.of; rw [if_pos hq.1]
    split
    · rename_i h0
      rcases h with ⟨hb, _⟩ | ⟨h1, _⟩
      · exact hb
      · omega
    · rename_i h0
      rcases hi.is with e | ⟨x, hx, hx1, hx2⟩
      · exact absurd e h0
      · rcases h with ⟨hb, h⟩ | ⟨h1, h2, ⟨y, hy, hy1, hy2⟩, h3⟩
        · exact absurd ((hat x).trans hx1) ((h.resolve_left (by omega)) x hx)
        · have := h3 x hx ((hat x).trans hx1)
          have := hi.least h1 y hy ((hat y).symm.trans hy1)
          omega
  · rename_i hq
    rw [if_neg hq] at h
    rcases h with ⟨hb, _⟩ | ⟨h1, _⟩
    · exact hb
    · omega
set_option maxHeartbeats 2000000 in
theorem refHolder {w : World} {ao : Option Addr} {n : Nat} {C : List Xg} (h : XgL w ao n C) (c : Nat) (hn : n ≤ 1048576) (q : Int) (hC : ∀ x ∈ C, 0 ≤ x.w ∧ x.w < 64) :
    Calls Try.prog 49 #[.slice ao n c, .int .i64 q] w fun e w' => e = .returned (.int .i64 (holdP (whL C) q)) ∧ w = w' := by
  have HL := Lib.hid h
  have HLEN := Lib.hid h.at_.size
  have HC := Lib.hid hC
  have PW := refWhole h c hn q
  have HDN := Lib.hid (fun b => HbSt.done (w := w) (C := C) (q := q) (b := b) (fun x hx => ⟨(h.in_ x hx).1, hC x hx⟩))
  clear h hC
  obtain ⟨u, hu⟩ : ∃ u, u = wholeP (whL C) q := ⟨_, rfl⟩
  rw [← hu] at PW HDN
  clear hu
  go_enter Try.func49, Try.ntmps49
  go_wp2_with fail
  refine PW.mono ?_
  rintro e w' ⟨rfl, rfl⟩
  clear PW
  go_wp2
  go_loop [6, 7] (fun sm si => ∃ (k : Nat) (b : Int), k ≤ n ∧ -1 ≤ b ∧ b < 64 ∧ sm = .int .i64 b ∧ si = .int .i64 k ∧ Aside (HbSt (C.take k) q u b)) (fun _ si => n - (intOf si).toNat)
  case atStart => exact ⟨0, -1, Nat.zero_le _, by omega, by omega, rfl, rfl, .inl ⟨rfl, .inr fun x hx => by rw [List.take_zero] at hx; cases hx⟩⟩
  case round =>
    obtain ⟨k, bb, hk, b0, b1, rfl, rfl, HB⟩ := hrel
    by_cases hlt : k < n
    · obtain ⟨b, o, x, rfl, hx, hr⟩ := HL.out.row hlt
      have c0 : w.cell? ⟨b, o + k * 6, none⟩ = some (.int .i64 x.w) := hr 0 _ rfl
      have c3 : w.cell? ⟨b, o + k * 6 + 3, none⟩ = some (.slice x.a x.n x.c) := hr 3 _ rfl
      have PA := refAt x.c (HL.out.in_ x (List.mem_of_getElem? hx)).1.at_ q
      have hxw := HC.out x (List.mem_of_getElem? hx)
      obtain ⟨w0, w1⟩ := hxw
      have SK := Lib.hid (HB.out.skip x)
      have TK := Lib.hid (HB.out.takes x)
      rw [← take_snoc15 hx] at SK TK
      obtain ⟨v, hv⟩ : ∃ v, v = atL x.cnt q := ⟨_, rfl⟩
      rw [← hv] at PA SK TK
      generalize x.w = xw at *
      generalize x.a = xa at *
      generalize x.n = xn at *
      generalize x.c = xc at *
      clear hr hx hv HB
      cases h0 : decide (0 < u) with
      | false =>
        have S2 := Lib.hid (SK.out (fun h => of_decide_eq_false h0 h.1))
        go_wp2
        go_round
        case rel => exact ⟨k + 1, bb, by omega, b0, b1, rfl, by go_num, S2.out⟩
        case measure => simp [intOf]; omega
      | true =>
        cases he : (v == u) with
        | false =>
          have S2 := Lib.hid (SK.out (fun h => by rw [h.2.1] at he; simp at he))
          go_wp2_with (first | (go_at_call 53; (with_reducible refine PA.mono ?_); rintro e w' ⟨rfl, rfl⟩) | fail)
          go_round
          case rel => exact ⟨k + 1, bb, by omega, b0, b1, rfl, by go_num, S2.out⟩
          case measure => simp [intOf]; omega
        | true =>
          cases hb : decide (bb < 0) with
          | true =>
            have S2 := Lib.hid (TK.out (of_decide_eq_true h0) (by simpa using he) (.inl (of_decide_eq_true hb)) w0)
            go_wp2_with (first | (go_at_call 53; (with_reducible refine PA.mono ?_); rintro e w' ⟨rfl, rfl⟩) | fail)
            go_round
            case rel => exact ⟨k + 1, xw, by omega, by omega, w1, rfl, by go_num, S2.out⟩
            case measure => simp [intOf]; omega
          | false =>
            cases hd : decide (xw < bb) with
            | true =>
              have S2 := Lib.hid (TK.out (of_decide_eq_true h0) (by simpa using he) (.inr (of_decide_eq_true hd)) w0)
              go_wp2_with (first | (go_at_call 53; (with_reducible refine PA.mono ?_); rintro e w' ⟨rfl, rfl⟩) | fail)
              go_round
              case rel => exact ⟨k + 1, xw, by omega, by omega, w1, rfl, by go_num, S2.out⟩
              case measure => simp [intOf]; omega
            | false =>
              have S2 := Lib.hid (SK.out (fun h => h.2.2.elim (of_decide_eq_false hb) (of_decide_eq_false hd)))
              go_wp2_with (first | (go_at_call 53; (with_reducible refine PA.mono ?_); rintro e w' ⟨rfl, rfl⟩) | fail)
              go_round
              case rel => exact ⟨k + 1, bb, by omega, b0, b1, rfl, by go_num, S2.out⟩
              case measure => simp [intOf]; omega
    · have HT := Lib.hid (show C.take k = C from List.take_of_length_le (by rw [HLEN.out]; omega))
      have HE := Lib.hid (HDN.out bb (by rw [← HT.out]; exact HB.out))
      go_wp2
      go_ret
      exact ⟨by rw [HE.out]; rfl, rfl⟩
set_option maxHeartbeats 1000000 in
theorem refSet {w : World} {ao : Option Addr} {n : Nat} {C : List Xg} (h : XgL w ao n C) (c : Nat) (hn : n ≤ 1048576) (hC : ∀ x ∈ C, 0 ≤ x.w ∧ x.w < 64) :
    Calls Try.prog 45 #[.slice ao n c] w fun e w' => e = .returned (.int .u64 (csL C : Nat)) ∧ w = w' := by
  have HL := Lib.hid h
  have HLEN := Lib.hid h.at_.size
  have HC := Lib.hid hC
  clear h hC
  go_enter Try.func45, Try.ntmps45
  go_wp2
  go_loop [3, 4] (fun sm si => ∃ (k : Nat), k ≤ n ∧ sm = .int .u64 (csL (C.take k) : Nat) ∧ si = .int .i64 k) (fun _ si => n - (intOf si).toNat)
  case atStart => exact ⟨0, Nat.zero_le _, by rw [List.take_zero]; unfold csL; rw [List.map_nil, ofl_nil]; rfl, rfl⟩
  case round =>
    obtain ⟨k, hk, rfl, rfl⟩ := hrel
    by_cases hlt : k < n
    · obtain ⟨b, o, x, rfl, hx, hr⟩ := HL.out.row hlt
      have c0 : w.cell? ⟨b, o + k * 6, none⟩ = some (.int .i64 x.w) := hr 0 _ rfl
      have hxw := HC.out x (List.mem_of_getElem? hx)
      obtain ⟨w0, w1⟩ := hxw
      have HT := Lib.hid (csL_take hx)
      have HCL := Lib.hid (csL_lt (C.take k))
      generalize csL (C.take k) = s at *
      generalize x.w = xw at *
      obtain ⟨z, rfl⟩ := Int.eq_ofNat_of_zero_le w0
      have HE := Lib.hid (any_eq s (onl (z : Int)) HCL.out (onl_lt _))
      have HO := Lib.hid (show IntKind.u64.wrap (2 ^ z) = ((onl (z : Int) : Nat) : Int) from by have := onl_shl z; rwa [Nat.min_eq_left (by omega)] at this)
      clear hr hx
      go_wp2
      go_round
      case rel => exact ⟨k + 1, by omega, by rw [HT.out, ← HE.out, ← HO.out], by go_num⟩
      case measure => simp [intOf]; omega
    · have HT := Lib.hid (show C.take k = C from List.take_of_length_le (by rw [HLEN.out]; omega))
      go_wp2
      go_ret
      exact ⟨by rw [HT.out]; rfl, rfl⟩
end Go.Proofs.Ytfocjcdfpnbkjaa
