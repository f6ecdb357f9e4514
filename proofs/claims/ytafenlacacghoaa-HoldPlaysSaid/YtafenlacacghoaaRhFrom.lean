/- The document's From. -/
import Derived.Test.YtafenlacacghoaaRhGet
set_option linter.unusedVariables false
set_option linter.unusedSimpArgs false
namespace Go.Proofs.Ytafenlacacghoaa
open Go.RowKit Go.Sort

/-- What the document's From has behind the numbers up to k. -/
def outA (L : List Mg) (lo : Nat → Nat) (p : Int) (seq : Nat) (most : Int) : Nat → List Mg
  | 0 => []
  | k + 1 => if ((outA L lo p seq most k).length : Int) < most then (match findA L lo p (k + 1) with
    | some m => if seq ≤ k + 1 then outA L lo p seq most k ++ [m] else outA L lo p seq most k
    | none => outA L lo p seq most k) else outA L lo p seq most k
theorem outA_le (L : List Mg) (lo : Nat → Nat) (p : Int) (seq : Nat) (most : Int) : ∀ k, (outA L lo p seq most k).length ≤ k
  | 0 => Nat.le_refl _
  | k + 1 => by
    have h := outA_le L lo p seq most k
    unfold outA
    split
    · split
      · split
        · rw [List.length_append, List.length_singleton]; omega
        · omega
      · omega
    · omega
theorem outA_end (L : List Mg) (lo : Nat → Nat) (p : Int) (seq : Nat) (most : Int) (k : Nat) (h : ¬ ((outA L lo p seq most k).length : Int) < most) : ∀ d, outA L lo p seq most (k + d) = outA L lo p seq most k
  | 0 => rfl
  | d + 1 => by
    have ih := outA_end L lo p seq most k h d
    show (if ((outA L lo p seq most (k + d)).length : Int) < most then _ else outA L lo p seq most (k + d)) = _
    rw [ih, if_neg h]
/-- What the document's From answers. -/
def RFrom (w : World) (O : List Mg) (e : Ending) (w' : World) : Prop := ∃ s, e = .returned (.slice s.a s.n s.c) ∧ AbSt w w' O s
set_option maxHeartbeats 8000000 in
set_option maxRecDepth 100000 in
theorem rh_from (s : Sl) (lo : Nat → Nat) (L : List Mg) (p : Int) (seq : Nat) (hq : seq < 4294967296) (most : Int) (m0 : -9223372036854775808 ≤ most) (m1 : most ≤ 9223372036854775807) (w : World) (hl : Lst encG 6 w s.a s.n L) (hn : s.n ≤ 1000) (hf : ∀ m ∈ L, 0 ≤ m.f ∧ m.f < 64) :
    Calls Try.prog 23 #[.agg (rhC s lo).toArray, .int .i64 p, .int .u32 (seq : Int), .int .i64 most] w (RFrom w (outA L lo p seq most (cntA L p))) := by
  have B1 := RhB.new w s lo
  have G1 := (Grw.refl w).alloc (.cells (rhC s lo).toArray 34)
  have PC := rh_count s lo L p _ (Lst.below hl G1.below) hn
  have HB1 := Lib.hid B1
  have HG1 := Lib.hid G1.below
  have HL := Lib.hid hl
  have HF := Lib.hid hf
  have hcb : cntA L p ≤ 1000 := by have := cntA_le L p; have := hl.size; omega
  clear B1 G1 hl hf
  obtain ⟨n, hn1⟩ : ∃ n, n = cntA L p := ⟨_, rfl⟩
  rw [← hn1] at PC hcb ⊢
  clear hn1
  go_enter Try.func23, Try.ntmps23
  go_upto_region 1 with fail
  generalize w.alloc (.cells (rhC s lo).toArray 34) = W at *
  generalize hhb : w.heap.size = hb at *
  have HHB := Lib.hid hhb
  clear hhb
  go_upto_region 3 with (first | (refine load_rh rfl (.tmp 4) rfl hb s lo rfl HB1.out ?_) | (go_at_call 19; refine PC.mono ?_; rintro e W2 ⟨rfl, G2⟩))
  have HB2 := Lib.hid (HB1.out.below G2.below)
  have HWB : Hid (Below w.heap.size w W2) := Lib.hid (by rw [HHB.out]; exact HG1.out.trans (G2.below.mono (by have := HG1.out.size; have := HHB.out; omega)))
  have A0 : Hid (AbSt W2 W2 (outA L lo p seq most 0) slNil) := Lib.hid ⟨Below.refl _ _, SlotAt.nil _, fun x hx => by simp [slNil] at hx⟩
  clear PC G2 HB1 HG1
  go_wp2
  go_loopw [9, 11] (fun ov sv wr => ∃ (k : Nat) (t : Sl), k ≤ n ∧ sv = .int .u32 ((k + 1 : Nat) : Int) ∧ ov = .slice t.a t.n t.c ∧ Hid (AbSt W2 wr (outA L lo p seq most k) t) ∧ Hid (Below W2.heap.size W2 wr)) (fun _ sv _ => n + 1 - (intOf sv).toNat)
  case atStart => exact ⟨0, slNil, Nat.zero_le _, rfl, rfl, A0, Lib.hid (Below.refl _ _)⟩
  case round =>
    obtain ⟨k, t, hk, rfl, rfl, HS, HW⟩ := hrel
    have hts : t.n ≤ 1000 := by have h1 := HS.out.slot.len; have h2 := outA_le L lo p seq most k; omega
    have htn : (outA L lo p seq most k).length = t.n := HS.out.slot.len
    by_cases hA : k < n
    · have hAz : (k : Int) + 1 ≤ (n : Int) := by omega
      by_cases hB : (t.n : Int) < most
      · have PG := rh_get s lo L p (k + 1) (by omega) wr (Lst.below HL.out (HWB.out.trans (HS.out.bel.mono HWB.out.size))) hn HF.out
        have HBR := Lib.hid (HB2.out.below HW.out)
        have hOE : outA L lo p seq most (k + 1) = match findA L lo p (k + 1) with | some m => if seq ≤ k + 1 then outA L lo p seq most k ++ [m] else outA L lo p seq most k | none => outA L lo p seq most k := by
          show (if ((outA L lo p seq most k).length : Int) < most then _ else _) = _
          rw [if_pos (by rw [htn]; exact hB)]
        rw [show (((k + 1 : Nat)) : Int) = (k : Int) + 1 by omega] at PG ⊢
        cases hfd : findA L lo p (k + 1) with
        | none =>
          rw [hfd] at PG hOE
          have HO := Lib.hid hOE
          clear hOE hfd htn
          go_upto_region 6 with fail
          go_wp2_with (refine load_rh rfl (.tmp 4) rfl hb s lo rfl HBR.out ?_)
          refine PG.mono ?_
          rintro e w3 hs
          cases hs with
          | no w' k3 =>
            have L4 := k3.trans ((((Grw.refl w3).alloc (.cells #[.int .i64 0, .int .u32 0, .int .u64 0, .int .i64 0, .slice none 0 0, .string { data := #[] }] 37)).below).mono k3.size)
            have HS4 := Lib.hid (HS.out.later L4)
            have HW4 := Lib.hid (HW.out.trans (L4.mono HW.out.size))
            clear PG k3 L4 HS HW
            unfold valG zeroG
            simp only [encG]
            go_wp2
            go_roundw
            case rel => exact ⟨k + 1, t, by omega, by first | go_num | (congr 1), rfl, Lib.hid (by rw [HO.out]; exact HS4.out), HW4⟩
            case measure => simp [intOf]; omega
        | some m =>
          rw [hfd] at PG hOE
          have HO := Lib.hid hOE
          clear hOE hfd htn
          go_upto_region 6 with fail
          go_wp2_with (refine load_rh rfl (.tmp 4) rfl hb s lo rfl HBR.out ?_)
          refine PG.mono ?_
          rintro e w3 hs
          cases hs with
          | yes m w' k3 =>
            obtain ⟨f, q, sx, v, a, dl, dc, deps, text⟩ := m
            have L4 := k3.trans ((((Grw.refl w3).alloc (.cells #[.int .i64 f, .int .u32 q, .int .u64 sx, .int .i64 v, .slice a dl dc, .string text] 37)).below).mono k3.size)
            have HS4 := Lib.hid (HS.out.later L4)
            have HW4 := Lib.hid (HW.out.trans (L4.mono HW.out.size))
            clear PG k3 L4 HS HW
            unfold valG
            simp only [encG]
            by_cases hsq : seq ≤ k + 1
            · have hsz : (seq : Int) ≤ (k : Int) + 1 := by omega
              have hw4 : (w3.alloc (.cells #[.int .i64 f, .int .u32 q, .int .u64 sx, .int .i64 v, .slice a dl dc, .string text] 37)).heap.size = w3.heap.size + 1 := by simp
              have hM := MgB.new (w3.alloc (.cells #[.int .i64 f, .int .u32 q, .int .u64 sx, .int .i64 v, .slice a dl dc, .string text] 37)) ⟨f, q, sx, v, a, dl, dc, deps, text⟩
              rw [hw4] at hM
              have HL7 := Lib.hid (lst_one hM)
              have L5 := ((Grw.refl (w3.alloc (.cells #[.int .i64 f, .int .u32 q, .int .u64 sx, .int .i64 v, .slice a dl dc, .string text] 37))).alloc (.cells #[.int .i64 f, .int .u32 q, .int .u64 sx, .int .i64 v, .slice a dl dc, .string text] 37)).below
              have HS5 := Lib.hid (HS4.out.later L5)
              have HW5 := Lib.hid (HW4.out.trans (L5.mono HW4.out.size))
              have HTS := Lib.hid hts
              have HHS := Lib.hid HS5.out.new
              rw [if_pos hsq] at HO
              clear hw4 hM L5 hsq hts HS4 HW4
              go_wp2_with (at_builtin; refine wpList_append_h rfl (.tmp 41) (.tmp 43) rfl t _ rfl HS5.out.slot ⟨w3.heap.size + 1, 0, none⟩ 1 1 [⟨f, q, sx, v, a, dl, dc, deps, text⟩] rfl HL7.out (by decide) (by have := HTS.out; omega) ?_; intro s' w' hs' hn' hg' hl')
              clear hn'
              have HS8 := Lib.hid (HS5.out.more hs' hg' hl')
              have HW8 := Lib.hid HS8.out.bel
              clear hs' hg' hl' HS5 HL7 HW5
              unfold Sl.v
              go_roundw
              case rel => exact ⟨k + 1, s', by omega, by first | go_num | (congr 1), rfl, Lib.hid (by rw [HO.out]; exact HS8.out), HW8⟩
              case measure => simp [intOf]; omega
            · have hsz : ¬ (seq : Int) ≤ (k : Int) + 1 := by omega
              rw [if_neg hsq] at HO
              clear hsq
              go_wp2
              go_roundw
              case rel => exact ⟨k + 1, t, by omega, by first | go_num | (congr 1), rfl, Lib.hid (by rw [HO.out]; exact HS4.out), HW4⟩
              case measure => simp [intOf]; omega
      · have hE := outA_end L lo p seq most k (by rw [htn]; exact hB) (n - k)
        rw [show k + (n - k) = n by omega] at hE
        have HE := Lib.hid (show AbSt W2 wr (outA L lo p seq most n) t by rw [hE]; exact HS.out)
        clear hE htn HS
        go_wp2
        go_ret
        exact ⟨t, rfl, ⟨HWB.out.trans (HE.out.bel.mono HWB.out.size), HE.out.slot, fun x hx => Nat.le_trans HWB.out.size (HE.out.new x hx)⟩⟩
    · obtain rfl : k = n := by omega
      have hAz : ¬ (k : Int) + 1 ≤ (k : Int) := by omega
      clear htn
      go_wp2
      go_ret
      exact ⟨t, rfl, ⟨HWB.out.trans (HS.out.bel.mono HWB.out.size), HS.out.slot, fun x hx => Nat.le_trans HWB.out.size (HS.out.new x hx)⟩⟩
end Go.Proofs.Ytafenlacacghoaa
