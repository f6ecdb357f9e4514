/- The document's From. -/
import Derived.Test.YtfocjcdfpnbkjaaZRhKits
import Derived.Test.YtfocjcdfpnbkjaaZRefCmps
import Derived.Test.YtfocjcdfpnbkjaaZStables
set_option linter.unusedVariables false
set_option linter.unusedSimpArgs false
namespace Go.Proofs.Ytfocjcdfpnbkjaa
open Go.RowKit Go.Sort

/-- What the document's From has behind the numbers up to k. -/
def outA (L : List Mg) (lo : Nat → Nat) (p : Int) (seq : Nat) (most : Int) : Nat → List Mg
  | 0 => []
  | k + 1 => if ((outA L lo p seq most k).length : Int) < most then (match findA L lo p (k + 1) with
    | some m => if seq ≤ k + 1 then outA L lo p seq most k ++ [m] else outA L lo p seq most k
    | none => outA L lo p seq most k) else outA L lo p seq most k
theorem outA_le (L : List Mg) (lo : Nat → Nat) (p : Int) (seq : Nat) (most : Int) : ∀ k, (outA L lo p seq most k).length ≤ k
  | 0 => Nat.le_refl _
  | k + 1 => by
    have h := outA_le L lo p seq most k
    unfold outA
    split
    · split
      · split
        · rw [List.length_append, List.length_singleton]; omega
        · omega
      · omega
    · omega
theorem outA_end (L : List Mg) (lo : Nat → Nat) (p : Int) (seq : Nat) (most : Int) (k : Nat) (h : ¬ ((outA L lo p seq most k).length : Int) < most) : ∀ d, outA L lo p seq most (k + d) = outA L lo p seq most k
  | 0 => rfl
  | d + 1 => by
    have ih := outA_end L lo p seq most k h d
    show (if ((outA L lo p seq most (k + d)).length : Int) < most then _ else outA L lo p seq most (k + d)) = _
    rw [ih, if_neg h]
/-- What the document's From answers. -/
def RFrom (w : World) (O : List Mg) (e : Ending) (w' : World) : Prop := ∃ s, e = .returned (.slice s.a s.n s.c) ∧ AbSt w w' O s
set_option maxHeartbeats 8000000 in
set_option maxRecDepth 100000 in
theorem rh_from (s : Sl) (lo : Nat → Nat) (L : List Mg) (p : Int) (seq : Nat) (hq : seq < 4294967296) (most : Int) (m0 : -9223372036854775808 ≤ most) (m1 : most ≤ 9223372036854775807) (w : World) (hl : Lst encG 6 w s.a s.n L) (hn : s.n ≤ 1000) (hf : ∀ m ∈ L, 0 ≤ m.f ∧ m.f < 64) :
    Calls Try.prog 116 #[.agg (rhC s lo).toArray, .int .i64 p, .int .u32 (seq : Int), .int .i64 most] w (RFrom w (outA L lo p seq most (cntA L p))) := by
  have B1 := RhB.new w s lo
  have G1 := (Grw.refl w).alloc (.cells (rhC s lo).toArray 33)
  have PC := rh_count s lo L p _ (Lst.below hl G1.below) hn
  have HB1 := Lib.hid B1
  have HG1 := Lib.hid G1.below
  have HL := Lib.hid hl
  have HF := Lib.hid hf
  have hcb : cntA L p ≤ 1000 := by have := cntA_le L p; have := hl.size; omega
  clear B1 G1 hl hf
  obtain ⟨n, hn1⟩ : ∃ n, n = cntA L p := ⟨_, rfl⟩
  rw [← hn1] at PC hcb ⊢
  clear hn1
  go_enter Try.func116, Try.ntmps116
  go_upto_region 1 with fail
  generalize w.alloc (.cells (rhC s lo).toArray 33) = W at *
  generalize hhb : w.heap.size = hb at *
  have HHB := Lib.hid hhb
  clear hhb
  go_upto_region 3 with (first | (refine load_rh rfl (.tmp 4) rfl hb s lo rfl HB1.out ?_) | (go_at_call 138; refine PC.mono ?_; rintro e W2 ⟨rfl, G2⟩))
  have HB2 := Lib.hid (HB1.out.below G2.below)
  have HWB : Hid (Below w.heap.size w W2) := Lib.hid (by rw [HHB.out]; exact HG1.out.trans (G2.below.mono (by have := HG1.out.size; have := HHB.out; omega)))
  have A0 : Hid (AbSt W2 W2 (outA L lo p seq most 0) slNil) := Lib.hid ⟨Below.refl _ _, SlotAt.nil _, fun x hx => by simp [slNil] at hx⟩
  clear PC G2 HB1 HG1
  go_wp2
  go_loopw [9, 11] (fun ov sv wr => ∃ (k : Nat) (t : Sl), k ≤ n ∧ sv = .int .u32 ((k + 1 : Nat) : Int) ∧ ov = .slice t.a t.n t.c ∧ Hid (AbSt W2 wr (outA L lo p seq most k) t) ∧ Hid (Below W2.heap.size W2 wr)) (fun _ sv _ => n + 1 - (intOf sv).toNat)
  case atStart => exact ⟨0, slNil, Nat.zero_le _, rfl, rfl, A0, Lib.hid (Below.refl _ _)⟩
  case round =>
    obtain ⟨k, t, hk, rfl, rfl, HS, HW⟩ := hrel
    have hts : t.n ≤ 1000 := by have h1 := HS.out.slot.len; have h2 := outA_le L lo p seq most k; omega
    have htn : (outA L lo p seq most k).length = t.n := HS.out.slot.len
    by_cases hA : k < n
    · have hAz : (k : Int) + 1 ≤ (n : Int) := by omega
      by_cases hB : (t.n : Int) < most
      · have PG := rh_get s lo L p (k + 1) (by omega) wr (Lst.below HL.out (HWB.out.trans (HS.out.bel.mono HWB.out.size))) hn HF.out
        have HBR := Lib.hid (HB2.out.below HW.out)
        have hOE : outA L lo p seq most (k + 1) = match findA L lo p (k + 1) with | some m => if seq ≤ k + 1 then outA L lo p seq most k ++ [m] else outA L lo p seq most k | none => outA L lo p seq most k := by
          show (if ((outA L lo p seq most k).length : Int) < most then _ else _) = _
          rw [if_pos (by rw [htn]; exact hB)]
        rw [show (((k + 1 : Nat)) : Int) = (k : Int) + 1 by omega] at PG ⊢
        cases hfd : findA L lo p (k + 1) with
        | none =>
          rw [hfd] at PG hOE
          have HO := Lib.hid hOE
          clear hOE hfd htn
          go_upto_region 6 with fail
          go_wp2_with (refine load_rh rfl (.tmp 4) rfl hb s lo rfl HBR.out ?_)
          refine PG.mono ?_
          rintro e w3 hs
          cases hs with
          | no w' k3 =>
            have L4 := k3.trans ((((Grw.refl w3).alloc (.cells #[.int .i64 0, .int .u32 0, .int .u64 0, .int .i64 0, .slice none 0 0, .string { data := #[] }] 47)).below).mono k3.size)
            have HS4 := Lib.hid (HS.out.later L4)
            have HW4 := Lib.hid (HW.out.trans (L4.mono HW.out.size))
            clear PG k3 L4 HS HW
            unfold valG zeroG
            simp only [encG]
            go_wp2
            go_roundw
            case rel => exact ⟨k + 1, t, by omega, by first | go_num | (congr 1), rfl, Lib.hid (by rw [HO.out]; exact HS4.out), HW4⟩
            case measure => simp [intOf]; omega
        | some m =>
          rw [hfd] at PG hOE
          have HO := Lib.hid hOE
          clear hOE hfd htn
          go_upto_region 6 with fail
          go_wp2_with (refine load_rh rfl (.tmp 4) rfl hb s lo rfl HBR.out ?_)
          refine PG.mono ?_
          rintro e w3 hs
          cases hs with
          | yes m w' k3 =>
            obtain ⟨f, q, sx, v, a, dl, dc, deps, text⟩ := m
            have L4 := k3.trans ((((Grw.refl w3).alloc (.cells #[.int .i64 f, .int .u32 q, .int .u64 sx, .int .i64 v, .slice a dl dc, .string text] 47)).below).mono k3.size)
            have HS4 := Lib.hid (HS.out.later L4)
            have HW4 := Lib.hid (HW.out.trans (L4.mono HW.out.size))
            clear PG k3 L4 HS HW
            unfold valG
            simp only [encG]
            by_cases hsq : seq ≤ k + 1
            · have hsz : (seq : Int) ≤ (k : Int) + 1 := by omega
              have hw4 : (w3.alloc (.cells #[.int .i64 f, .int .u32 q, .int .u64 sx, .int .i64 v, .slice a dl dc, .string text] 47)).heap.size = w3.heap.size + 1 := by simp
              have hM := MgB.new (w3.alloc (.cells #[.int .i64 f, .int .u32 q, .int .u64 sx, .int .i64 v, .slice a dl dc, .string text] 47)) ⟨f, q, sx, v, a, dl, dc, deps, text⟩
              rw [hw4] at hM
              have HL7 := Lib.hid (lst_one hM)
              have L5 := ((Grw.refl (w3.alloc (.cells #[.int .i64 f, .int .u32 q, .int .u64 sx, .int .i64 v, .slice a dl dc, .string text] 47))).alloc (.cells #[.int .i64 f, .int .u32 q, .int .u64 sx, .int .i64 v, .slice a dl dc, .string text] 47)).below
              have HS5 := Lib.hid (HS4.out.later L5)
              have HW5 := Lib.hid (HW4.out.trans (L5.mono HW4.out.size))
              have HTS := Lib.hid hts
              have HHS := Lib.hid HS5.out.new
              rw [if_pos hsq] at HO
              clear hw4 hM L5 hsq hts HS4 HW4
              go_wp2_with (at_builtin; refine wpList_append_h rfl (.tmp 41) (.tmp 43) rfl t _ rfl HS5.out.slot ⟨w3.heap.size + 1, 0, none⟩ 1 1 [⟨f, q, sx, v, a, dl, dc, deps, text⟩] rfl HL7.out (by decide) (by have := HTS.out; omega) ?_; intro s' w' hs' hn' hg' hl')
              clear hn'
              have HS8 := Lib.hid (HS5.out.more hs' hg' hl')
              have HW8 := Lib.hid HS8.out.bel
              clear hs' hg' hl' HS5 HL7 HW5
              unfold Sl.v
              go_roundw
              case rel => exact ⟨k + 1, s', by omega, by first | go_num | (congr 1), rfl, Lib.hid (by rw [HO.out]; exact HS8.out), HW8⟩
              case measure => simp [intOf]; omega
            · have hsz : ¬ (seq : Int) ≤ (k : Int) + 1 := by omega
              rw [if_neg hsq] at HO
              clear hsq
              go_wp2
              go_roundw
              case rel => exact ⟨k + 1, t, by omega, by first | go_num | (congr 1), rfl, Lib.hid (by rw [HO.out]; exact HS4.out), HW4⟩
              case measure => simp [intOf]; omega
      · have hE := outA_end L lo p seq most k (by rw [htn]; exact hB) (n - k)
        rw [show k + (n - k) = n by omega] at hE
        have HE := Lib.hid (show AbSt W2 wr (outA L lo p seq most n) t by rw [hE]; exact HS.out)
        clear hE htn HS
        go_wp2
        go_ret
        exact ⟨t, rfl, ⟨HWB.out.trans (HE.out.bel.mono HWB.out.size), HE.out.slot, fun x hx => Nat.le_trans HWB.out.size (HE.out.new x hx)⟩⟩
    · obtain rfl : k = n := by omega
      have hAz : ¬ (k : Int) + 1 ≤ (k : Int) := by omega
      clear htn
      go_wp2
      go_ret
      exact ⟨t, rfl, ⟨HWB.out.trans (HS.out.bel.mono HWB.out.size), HS.out.slot, fun x hx => Nat.le_trans HWB.out.size (HS.out.new x hx)⟩⟩
end Go.Proofs.Ytfocjcdfpnbkjaa

/- The document's Above. -/
set_option linter.unusedVariables false
set_option linter.unusedSimpArgs false
namespace Go.Proofs.Ytfocjcdfpnbkjaa
open Go.RowKit Go.Sort

/-- What the document's From answers of a process's all. -/
def outAll (L : List Mg) (lo : Nat → Nat) : Nat → List Mg := fun p => outA L lo (p : Int) 0 (L.length : Int) (cntA L (p : Int))
/-- What the document's Above answers: O sorted. -/
def RAbove (w : World) (O : List Mg) (e : Ending) (w' : World) : Prop := ∃ ao n c M, e = .returned (.slice ao n c) ∧ IsSrt Mg.key O M ∧ Lst encG 6 w' ao n M ∧ Below w.heap.size w w'
/-- A row that is read stays, whatever another one is appended to. -/
structure Ab2 (w5 wr : World) (ua : Option Addr) (t : Sl) : Prop where
  kept : ∀ x, ua = some x → wr.heap[x.block]? = w5.heap[x.block]?
  apart : ∀ x y, ua = some x → t.a = some y → y.block ≠ x.block
  lt : ∀ x, ua = some x → x.block < w5.heap.size
  sz : w5.heap.size ≤ wr.heap.size
theorem Ab2.later {w5 wr w' : World} {ua : Option Addr} {t : Sl} (h : Ab2 w5 wr ua t) (hb : Below wr.heap.size wr w') : Ab2 w5 w' ua t :=
  ⟨fun x hx => (hb.block _ (Nat.lt_of_lt_of_le (h.lt x hx) h.sz)).trans (h.kept x hx), h.apart, h.lt, Nat.le_trans h.sz hb.size⟩
theorem Ab2.more {w5 wr w' : World} {ua : Option Addr} {t s' : Sl} (h : Ab2 w5 wr ua t) (hg : wr.grownBy w' t.v.ownBlock) (hl : ∃ y, s'.a = some y ∧ ((∃ z, t.a = some z ∧ z.block = y.block) ∨ wr.heap.size ≤ y.block)) : Ab2 w5 w' ua s' := by
  refine ⟨fun x hx => (hg.block _ (Nat.lt_of_lt_of_le (h.lt x hx) h.sz) fun e => ?_).trans (h.kept x hx), fun x y hx hy => ?_, h.lt, Nat.le_trans h.sz hg.size⟩
  · obtain ⟨z, hz, e2⟩ := Sl.block e.symm
    exact h.apart x z hx hz e2
  · obtain ⟨y', e, h1⟩ := hl
    rw [hy] at e; cases e
    rcases h1 with ⟨z, hz, e2⟩ | h1
    · rw [← e2]; exact h.apart x z hx hz
    · have := h.lt x hx; have := h.sz; omega
set_option maxHeartbeats 8000000 in
set_option maxRecDepth 100000 in
theorem rh_above (s : Sl) (lo : Nat → Nat) (L : List Mg) (w : World) (hl : Lst encG 6 w s.a s.n L) (hn : s.n ≤ 1000) (hf : ∀ m ∈ L, 0 ≤ m.f ∧ m.f < 64) (kk : K) :
    Calls Try.prog 75 #[.agg (rhC s lo).toArray, .agg #[.int .u64 kk.n, .int .i64 kk.p]] w (RAbove w (catF (outAll L lo) kk 64)) := by
  obtain ⟨kn, kp⟩ := kk
  simp only
  have mixed : Try.prog.follows .mixedOrders = true := by kernel_rfl
  have hXd : ∀ p : Nat, outAll L lo p = outA L lo (p : Int) 0 (s.n : Int) (cntA L (p : Int)) := fun p => by unfold outAll; rw [hl.size]
  have hbX : ∀ p, p < 64 → (outAll L lo p).length ≤ 1000 := fun p _ => by
    have h1 := outA_le L lo (p : Int) 0 (L.length : Int) (cntA L (p : Int))
    have h2 := cntA_le L (p : Int)
    have h3 := hl.size
    unfold outAll
    omega
  generalize hX : outAll L lo = X at *
  clear hX
  have HXD := Lib.hid hXd
  have HBX := Lib.hid hbX
  have HCL := Lib.hid (catF_len X ⟨kn, kp⟩ 1000 hbX)
  have L1 := ((Grw.refl w).alloc (.cells (rhC s lo).toArray 33)).below
  have L2 := L1.trans ((((Grw.refl (w.alloc (.cells (rhC s lo).toArray 33))).alloc (.cells #[.int .u64 kn, .int .i64 kp] 39)).below).mono L1.size)
  have B2 : RhB ((w.alloc (.cells (rhC s lo).toArray 33)).alloc (.cells #[.int .u64 kn, .int .i64 kp] 39)) w.heap.size s lo := (RhB.new w s lo).below ((Grw.refl _).alloc _).below
  have hs1 : (w.alloc (.cells (rhC s lo).toArray 33)).heap.size = w.heap.size + 1 := by simp
  have hk0 : ((w.alloc (.cells (rhC s lo).toArray 33)).alloc (.cells #[.int .u64 kn, .int .i64 kp] 39)).cell? ⟨w.heap.size + 1, 0, none⟩ = some (.int .u64 kn) := by rw [← hs1]; simp
  have hk1 : ((w.alloc (.cells (rhC s lo).toArray 33)).alloc (.cells #[.int .u64 kn, .int .i64 kp] 39)).cell? ⟨w.heap.size + 1, 1, none⟩ = some (.int .i64 kp) := by rw [← hs1]; simp
  have hsz : ((w.alloc (.cells (rhC s lo).toArray 33)).alloc (.cells #[.int .u64 kn, .int .i64 kp] 39)).heap.size = w.heap.size + 2 := by simp
  have KF : Hid (∀ (p : Nat) (V : World), Below w.heap.size w V → Calls Try.prog 116 #[.agg (rhC s lo).toArray, .int .i64 (p : Int), .int .u32 0, .int .i64 (s.n : Int)] V (RFrom V (X p))) := Lib.hid fun p V hb => by
    have := rh_from s lo L (p : Int) 0 (by decide) (s.n : Int) (by omega) (by omega) V (Lst.below hl hb) hn hf
    rw [← HXD.out] at this
    exact this
  have HB2 := Lib.hid B2
  have HL2 := Lib.hid L2
  have hc0 := B2.c0
  clear hl hf hbX hXd HXD L1 L2 B2 hs1
  generalize hT : (rhC s lo).toArray = C at *
  replace hT := Lib.hid hT
  go_enter Try.func75, Try.ntmps75
  go_upto_region 1 with fail
  generalize (w.alloc (.cells C 33)).alloc (.cells #[.int .u64 kn, .int .i64 kp] 39) = W at *
  obtain ⟨kb, hkb⟩ : ∃ kb, kb = w.heap.size + 1 := ⟨_, rfl⟩
  rw [← hkb] at hk0 hk1
  try rw [← hkb]
  generalize hhb : w.heap.size = hb at *
  have HHB := Lib.hid hhb
  have hkb1 : kb < W.heap.size := by omega
  have HK := Lib.hid (And.intro hkb1 (And.intro hk0 hk1))
  have HC0 := Lib.hid hc0
  clear hhb hkb hsz hk0 hk1 hkb1 hc0
  have A0 : Hid (AbSt W W [] slNil) := Lib.hid ⟨Below.refl _ _, SlotAt.nil W, fun x hx => by simp [slNil] at hx⟩
  go_wp2
  go_loopw [5, 6] (fun so si wr => ∃ (k : Nat) (t : Sl), k ≤ 64 ∧ si = .int .i64 k ∧ so = .slice t.a t.n t.c ∧ Hid (AbSt W wr (catF X ⟨kn, kp⟩ k) t)) (fun _ si _ => 64 - (intOf si).toNat)
  case atStart => exact ⟨0, slNil, Nat.zero_le _, rfl, rfl, A0⟩
  case round =>
    obtain ⟨k, t, hk, rfl, rfl, HS⟩ := hrel
    by_cases hlt : k < 64
    · have HBr := Lib.hid (HB2.out.below HS.out.bel)
      have hcr := cell_later HS.out.bel HC0.out
      have PF := KF.out k wr (HL2.out.trans (HS.out.bel.mono (by have := HL2.out.size; have := HHB.out; omega)))
      go_upto_region 6 with (first | (refine load_rh rfl (.tmp 2) rfl hb s lo rfl HBr.out ?_; rw [hT.out]) | (go_at_call 116; refine PF.mono ?_; rintro e w5 ⟨⟨ua, un, uc⟩, rfl, hU⟩))
      have HU := Lib.hid hU
      have HS5 := Lib.hid (HS.out.later hU.bel)
      have hun : (X k).length = un := hU.slot.len
      have hub : un ≤ 1000 := by have := HBX.out k hlt; omega
      have HUN := Lib.hid hun
      have hS0 : Hid (AbSt W w5 (catF X ⟨kn, kp⟩ k ++ ((X k).take 0).filter fun x => K.less ⟨kn, kp⟩ x.key) t) := Lib.hid (by rw [List.take_zero, List.filter_nil, List.append_nil]; exact HS5.out)
      have hA0 : Hid (Ab2 w5 w5 ua t) := Lib.hid ⟨fun _ _ => rfl, fun x y hx hy => by have h1 := hU.new x hx; have h2 := HS.out.slot.lt y hy; omega, fun x hx => hU.slot.lt x hx, Nat.le_refl _⟩
      clear PF hU HS HBr hcr hun
      go_wp2
      go_loopw [5, 8] (fun so si wr => ∃ (i : Nat) (t : Sl), i ≤ un ∧ si = .int .i64 i ∧ so = .slice t.a t.n t.c ∧ Hid (AbSt W wr (catF X ⟨kn, kp⟩ k ++ ((X k).take i).filter fun x => K.less ⟨kn, kp⟩ x.key) t) ∧ Hid (Ab2 w5 wr ua t)) (fun _ si _ => un - (intOf si).toNat)
      case atStart => exact ⟨0, t, Nat.zero_le _, rfl, rfl, hS0, hA0⟩
      case round =>
        obtain ⟨i, t, hi, rfl, rfl, HS, HB⟩ := hrel
        by_cases hlt2 : i < un
        · have hsl := HU.out.slot
          rcases hsl with ⟨h0, _⟩ | ⟨tb, tf, hta, hR⟩
          · exfalso; injection h0 with _ h0 _; omega
          simp only at hta
          subst hta
          obtain ⟨x, hx⟩ : ∃ x, (X k)[i]? = some x := ⟨_, List.getElem?_eq_getElem (by rw [HUN.out]; exact hlt2)⟩
          have hcell : ∀ c v, (encG x)[c]? = some v → wr.cell? ⟨tb, tf + i * 6 + c, none⟩ = some v := fun c v hv => by
            have hj : c < 6 := by have := (List.getElem?_eq_some_iff.1 hv).1; rwa [encG_length] at this
            rw [Nat.add_assoc]
            exact (hR.kept (HB.out.kept _ rfl)).cell _ _ (by rw [flat_at encG 6 encG_length (X k) i x hx c hj]; exact hv)
          have htl : tb < wr.heap.size := Nat.lt_of_lt_of_le hR.lt HB.out.sz
          have HTK : Hid ((X k).take (i + 1) = (X k).take i ++ [x]) := Lib.hid (by rw [List.take_succ_eq_append_getElem (by rw [HUN.out]; exact hlt2), (List.getElem?_eq_some_iff.1 hx).2])
          have hlen : (catF X ⟨kn, kp⟩ k ++ ((X k).take i).filter fun x => K.less ⟨kn, kp⟩ x.key).length ≤ 100000 := by
            have h1 := HCL.out k (by omega)
            have h2 := List.length_filter_le (fun x => K.less ⟨kn, kp⟩ x.key) ((X k).take i)
            rw [List.length_take] at h2
            rw [List.length_append]
            omega
          have hsn : t.n ≤ 100000 := by rw [← HS.out.slot.len]; exact hlen
          have HSN := Lib.hid hsn
          have HLS : Hid (K.less ⟨kn, kp⟩ x.key = lessB kn kp x.s x.f) := Lib.hid rfl
          obtain ⟨f, q, sx, v, a, dl, dc, deps, text⟩ := x
          have y0 := fun n os => cell_grown (a := ⟨tb, tf + i * 6 + 0, none⟩) (n := n) (os := os) htl (hcell 0 _ rfl)
          have y1 := fun n os => cell_grown (a := ⟨tb, tf + i * 6 + 1, none⟩) (n := n) (os := os) htl (hcell 1 _ rfl)
          have y2 := fun n os => cell_grown (a := ⟨tb, tf + i * 6 + 2, none⟩) (n := n) (os := os) htl (hcell 2 _ rfl)
          have y3 := fun n os => cell_grown (a := ⟨tb, tf + i * 6 + 3, none⟩) (n := n) (os := os) htl (hcell 3 _ rfl)
          have y4 := fun n os => cell_grown (a := ⟨tb, tf + i * 6 + 4, none⟩) (n := n) (os := os) htl (hcell 4 _ rfl)
          have y5 := fun n os => cell_grown (a := ⟨tb, tf + i * 6 + 5, none⟩) (n := n) (os := os) htl (hcell 5 _ rfl)
          simp only [Nat.add_zero] at y0
          simp only at y1 y2 y3 y4 y5
          have hkl : kb < wr.heap.size := Nat.lt_of_lt_of_le HK.out.1 HS.out.bel.size
          have b0 := fun n os => cell_grown (a := ⟨kb, 0, none⟩) (n := n) (os := os) hkl (cell_later HS.out.bel HK.out.2.1)
          have b1 := fun n os => cell_grown (a := ⟨kb, 1, none⟩) (n := n) (os := os) hkl (cell_later HS.out.bel HK.out.2.2)
          have ho : ∀ (f q s v : Int) (a : Option Addr) (dl dc : Nat) (text : ByteArray) W, Calls Try.prog 79 #[.agg #[.int .i64 f, .int .u32 q, .int .u64 s, .int .i64 v, .slice a dl dc, .string text]] W fun e w' => e = .returned (.agg #[.int .u64 s, .int .i64 f]) ∧ Grw W w' :=
            fun f q s v a dl dc text W => refOf12_any ⟨f, q, s, v, a, dl, dc, [], text⟩ W
          have hls : ∀ (an ap bn bp : Int) W, Calls Try.prog 78 #[.agg #[.int .u64 an, .int .i64 ap], .agg #[.int .u64 bn, .int .i64 bp]] W fun e w' => e = .returned (.bool (lessB an ap bn bp)) ∧ Grw W w' := fun an ap bn bp W => less12_any ⟨an, ap⟩ ⟨bn, bp⟩ W
          clear hcell hx hlen hsn
          have HRR := Lib.hid hR
          clear hR
          cases hr : lessB kn kp sx f with
          | true =>
            have HLT : Hid (K.less ⟨kn, kp⟩ (Mg.key ⟨f, q, sx, v, a, dl, dc, deps, text⟩) = true) := Lib.hid (HLS.out.trans hr)
            have hl1 : ∀ W, Calls Try.prog 78 #[.agg #[.int .u64 kn, .int .i64 kp], .agg #[.int .u64 sx, .int .i64 f]] W fun e w' => e = .returned (.bool true) ∧ Grw W w' := fun W => by
              have := hls kn kp sx f W
              rw [hr] at this
              exact this
            clear hls hr HLS
            go_wp2_with fail
            go_quiet_grown (first
              | (go_at_call 79; exact Calls.grown_of (ho _ _ _ _ _ _ _ _ _))
              | (go_at_call 78; exact Calls.grown_of (hl1 _)))
            have z0 := y0 nq osq
            have z1 := y1 nq osq
            have z2 := y2 nq osq
            have z3 := y3 nq osq
            have z4 := y4 nq osq
            have z5 := y5 nq osq
            have HS6 := Lib.hid (HS.out.later (Grw.below ⟨nq, osq, rfl⟩))
            have HB7 := Lib.hid (HB.out.later (Grw.below (w := wr) ⟨nq, osq, rfl⟩))
            clear ho hl1 y0 y1 y2 y3 y4 y5 b0 b1 HS HB
            generalize grow (wr.drewN nq) osq = W6 at *
            have HL7 := Lib.hid (lst_one (MgB.new W6 ⟨f, q, sx, v, a, dl, dc, deps, text⟩))
            have L7 := ((Grw.refl W6).alloc (.cells #[.int .i64 f, .int .u32 q, .int .u64 sx, .int .i64 v, .slice a dl dc, .string text] 47)).below
            have HS7 := Lib.hid (HS6.out.later L7)
            have HB8 := Lib.hid (HB7.out.later L7)
            clear HS6 HB7 L7
            have HHS := Lib.hid HS7.out.new
            go_wp2_with (at_builtin; refine wpList_append_h rfl (.tmp 32) (.tmp 37) rfl t _ rfl HS7.out.slot ⟨W6.heap.size, 0, none⟩ 1 1 [⟨f, q, sx, v, a, dl, dc, deps, text⟩] rfl HL7.out (by decide) (by have := HSN.out; omega) ?_; intro s' w' hs' hn' hg' hl')
            clear hn'
            have HS8 := Lib.hid (HS7.out.more hs' hg' hl')
            have HB9 := Lib.hid (HB8.out.more hg' hl')
            clear hs' hg' hl' HS7 HL7 HB8
            unfold Sl.v
            go_roundw
            case rel =>
              refine ⟨i + 1, s', by omega, by go_num, rfl, Lib.hid ?_, HB9⟩
              rw [HTK.out, List.filter_append, ← List.append_assoc, List.filter_cons_of_pos (by rw [HLT.out])]
              exact HS8.out
            case measure => simp [intOf]; omega
          | false =>
            have HLT : Hid (K.less ⟨kn, kp⟩ (Mg.key ⟨f, q, sx, v, a, dl, dc, deps, text⟩) = false) := Lib.hid (HLS.out.trans hr)
            have hl1 : ∀ W, Calls Try.prog 78 #[.agg #[.int .u64 kn, .int .i64 kp], .agg #[.int .u64 sx, .int .i64 f]] W fun e w' => e = .returned (.bool false) ∧ Grw W w' := fun W => by
              have := hls kn kp sx f W
              rw [hr] at this
              exact this
            clear hls hr HLS
            go_wp2_with fail
            go_quiet_grown (first
              | (go_at_call 79; exact Calls.grown_of (ho _ _ _ _ _ _ _ _ _))
              | (go_at_call 78; exact Calls.grown_of (hl1 _)))
            have HS6 := Lib.hid (HS.out.later (Grw.below ⟨nq, osq, rfl⟩))
            have HB7 := Lib.hid (HB.out.later (Grw.below (w := wr) ⟨nq, osq, rfl⟩))
            clear ho hl1 y0 y1 y2 y3 y4 y5 b0 b1 HS HB
            go_wp2
            go_roundw
            case rel =>
              refine ⟨i + 1, t, by omega, by go_num, rfl, Lib.hid ?_, HB7⟩
              rw [HTK.out, List.filter_append, List.filter_cons_of_neg (by rw [HLT.out]; simp), List.filter_nil, List.append_nil]
              exact HS6.out
            case measure => simp [intOf]; omega
        · have hE : Hid (AbSt W wr (catF X ⟨kn, kp⟩ (k + 1)) t) := Lib.hid (by
            have h2 : (X k).take i = X k := List.take_of_length_le (by rw [HUN.out]; omega)
            have h3 := HS.out
            rw [h2] at h3
            exact h3)
          go_wp2
          go_roundw
          case rel => exact ⟨k + 1, t, by omega, by go_num, rfl, hE⟩
          case measure => simp [intOf]; omega
    · obtain rfl : k = 64 := by omega
      have hsn : t.n ≤ 100000 := by
        have h1 := HCL.out 64 (by omega)
        rw [← HS.out.slot.len]; omega
      have P1 := refSort_any t.a t.n t.c (catF X ⟨kn, kp⟩ 64) wr HS.out.slot.lst (by omega)
      have HBB := Lib.hid (HL2.out.trans (HS.out.bel.mono (by have := HL2.out.size; have := HHB.out; omega)))
      clear HS A0
      generalize catF X ⟨kn, kp⟩ 64 = O at *
      go_wp2_with fail
      refine P1.mono ?_
      rintro e w1 ⟨ao, c, M, rfl, hc0, hM, hLM, hB1⟩
      have HF := Lib.hid (And.intro hM (And.intro hLM (HBB.out.trans (hB1.mono (by have := HBB.out.size; have := HHB.out; omega)))))
      clear P1 hc0 hM hLM hB1
      have hhb := HHB.out
      subst hhb
      go_wp2_with fail
      go_ret
      exact ⟨ao, t.n, c, M, rfl, HF.out⟩
end Go.Proofs.Ytfocjcdfpnbkjaa
