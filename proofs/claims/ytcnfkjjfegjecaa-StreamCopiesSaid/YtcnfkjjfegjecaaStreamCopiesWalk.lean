/- The walk of 'StreamCopies'. (Written by wip/gen_streamcopies.py.) -/
import Derived.Test.YtcnfkjjfegjecaaSCopy
import Derived.Test.YtcnfkjjfegjecaaSLoop
set_option linter.unusedVariables false
set_option linter.unusedSimpArgs false
namespace Go.Proofs.Ytcnfkjjfegjecaa
open Go.RowKit Go.Sort Go.Maps

/-- A stream behind at most k calls with messages of l. -/
def OrdL (l : List Mg) (k : Nat) (S : Sm Mg) : Prop := ∃ F1 A1, Ord sqG S F1 A1 ∧ (∀ m ∈ F1, m ∈ l) ∧ F1.length ≤ k
theorem OrdL.start (l : List Mg) (n : Int) : OrdL l 0 (newS n) := ⟨[], [], ⟨newS_inv n, rfl, fun i x h => by simp at h, (fun x h => by rcases h with h | h <;> cases h), rfl⟩, (fun m hm => by cases hm), Nat.le_refl _⟩
theorem OrdL.step {l : List Mg} {k : Nat} {S : Sm Mg} (h : OrdL l k S) {m : Mg} (hm : m ∈ l) : OrdL l (k + 1) (takeS sqG S m) := by
  obtain ⟨F1, A1, ho, hs, hl⟩ := h
  refine ⟨_, _, ho.step sqG m, ?_, ?_⟩
  · split
    · intro x hx
      rcases List.mem_append.1 hx with hx | hx
      · exact hs x hx
      · rw [List.mem_singleton.1 hx]; exact hm
    · exact hs
  · split
    · simp; omega
    · omega
theorem OrdL.inv {l : List Mg} {k : Nat} {S : Sm Mg} (h : OrdL l k S) : SmInv sqG S := by obtain ⟨F1, A1, ho, _⟩ := h; exact ho.inv
theorem OrdL.count {l : List Mg} {k : Nat} {S : Sm Mg} (h : OrdL l k S) : S.count ≤ k := by
  obtain ⟨F1, A1, ho, _, hl⟩ := h
  have := ho.count
  have := ho.len
  omega
theorem OrdL.held {l : List Mg} {k : Nat} {S : Sm Mg} (h : OrdL l k S) : ∀ m ∈ S.held, m ∈ l := by
  obtain ⟨F1, A1, ho, hs, _⟩ := h
  exact fun m hm => hs m (ho.mem m (.inr hm))
/-- The stream some messages on. -/
def stepsS (S : Sm Mg) (r : List Mg) : Sm Mg := r.foldl (takeS sqG) S
theorem steps_next (S : Sm Mg) (l : List Mg) (p k : Nat) (hp : p ≤ k) (m : Mg) (hm : l[k]? = some m) : stepsS S ((l.take (k + 1)).drop p) = takeS sqG (stepsS S ((l.take k).drop p)) m := by
  obtain ⟨hk, rfl⟩ := List.getElem?_eq_some_iff.1 hm
  rw [List.take_succ_eq_append_getElem hk, List.drop_append_of_le_length (by rw [List.length_take]; omega)]
  unfold stepsS
  rw [List.foldl_append]
  rfl
theorem steps_none (S : Sm Mg) (l : List Mg) (p : Nat) : stepsS S ((l.take p).drop p) = S := by
  rw [List.drop_eq_nil_of_le (by rw [List.length_take]; omega)]
  rfl
/-- Take, without what it answers. -/
def TookS (w : World) (F : Nat → Prop) (g b : Nat) (S' : Sm Mg) (e : Ending) (w' : World) : Prop := (∃ v, e = .returned v) ∧ SmRep w' F g b S' ∧ Mv g b w w'
theorem stake_s {w w0 : World} {F : Nat → Prop} {g b : Nat} {S : Sm Mg} {l : List Mg} {k : Nat} (h : SmRep w F g b S) (hO : OrdL l k S) (hk : k ≤ 1000) (m : Mg) (hd : DpIn w0 m) (hb : Below w0.heap.size w0 w) (q0 : 0 ≤ m.q) (q1 : m.q < 4294967296) (hdl : m.dl ≤ 20000) :
    Calls Try.prog 11 #[.pointer (some ⟨g, 0, none⟩), .agg #[.int .i64 m.f, .int .u32 m.q, .int .u64 m.s, .int .i64 m.v, .slice m.a m.dl m.dc, .string m.text]] w (TookS w F g b (takeS sqG S m)) :=
  (stake_any h hO.inv m (hd.below hb) q0 q1 (by omega) (by have := hO.count; omega)).mono fun e w' ⟨ao, cap, he, hR, _, hM⟩ => ⟨⟨_, he⟩, hR, hM⟩
set_option maxHeartbeats 8000000 in
set_option maxRecDepth 100000 in
theorem copies_core (n : Int) (n0 : -9223372036854775808 ≤ n) (n1 : n ≤ 9223372036854775807) (ao : Option Addr) (len cap : Nat) (l : List Mg) (at_ : Int) (w : World) (hl : Lst encG 6 w ao len l) (hm : ∀ m ∈ l, DpIn w m ∧ 0 ≤ m.q ∧ m.q < 4294967296) :
    Calls Try.prog 5 #[.int .i64 n, .slice ao len cap, .int .i64 at_] w fun e w' => e = .returned (.bool true) ∧ Below w.heap.size w w' := by
  have HL := Lib.hid hl
  have HM := Lib.hid hm
  have HAW := Lib.hid (sawake w)
  have mixed : Try.prog.follows .mixedOrders = true := by kernel_rfl
  clear hl hm
  go_enter Try.func5, Try.ntmps5
  go_wp2_with fail
  refine HAW.out.mono ?_
  rintro e w1 ⟨rfl, L1⟩
  have HFE := Lib.hid (fewG_any ao len cap l w1 (HL.out.below L1))
  have HL1 := Lib.hid L1
  clear HAW L1
  go_wp2_with fail
  refine HFE.out.mono ?_
  rintro e w2 ⟨(rfl | ⟨rfl, h300, hdl⟩), L2⟩
  · have HL2 := Lib.hid (HL1.out.trans (L2.mono HL1.out.size))
    clear HFE HL1 L2
    go_wp2_with fail
    go_ret
    exact ⟨rfl, HL2.out⟩
  have HL2 := Lib.hid (HL1.out.trans (L2.mono HL1.out.size))
  have HNW := Lib.hid (snew_any n w2 n0 n1)
  have HDL := Lib.hid hdl
  clear HFE HL1 L2 hdl
  by_cases hat0 : at_ < 0
  · clear HNW
    go_wp2_with fail
    go_ret
    exact ⟨rfl, HL2.out⟩
  obtain ⟨p, rfl⟩ : ∃ p : Nat, at_ = (p : Int) := ⟨at_.toNat, by omega⟩
  clear hat0
  have hp0 : ¬ (p : Int) < 0 := by omega
  by_cases hpl : len < p
  · have hpl2 : (len : Int) < (p : Int) := by omega
    clear HNW
    go_wp2_with fail
    go_ret
    exact ⟨rfl, HL2.out⟩
  have hpl2 : ¬ (len : Int) < (p : Int) := by omega
  go_wp2_with (go_at_call 9; refine HNW.out.mono ?_; rintro e w3 ⟨rfl, R3, L3⟩; have HL3 := Lib.hid (HL2.out.trans (L3.mono HL2.out.size)); have HR3 := Lib.hid R3; clear R3 L3)
  have h23 := HL2.out.size
  obtain ⟨g, hge⟩ : ∃ g, g = w2.heap.size + 1 := ⟨_, rfl⟩
  obtain ⟨b, hbe⟩ : ∃ b, b = w2.heap.size := ⟨_, rfl⟩
  have HR : Hid (SmRep w3 (Two10 g b) g b (newS n)) := Lib.hid (by rw [hge, hbe]; exact HR3.out)
  rw [← hge]
  have hgw : w.heap.size ≤ g := by omega
  have hbw : w.heap.size ≤ b := by omega
  clear HNW HR3 HL2 hge hbe h23 hp0 hpl2
  have hplI : (p : Int) ≤ (len : Int) := by omega
  go_loopw [8] (fun si wr => ∃ (k : Nat) (S : Sm Mg), k ≤ p ∧ si = .int .i64 k ∧ SmRep wr (Two10 g b) g b S ∧ OrdL l k S ∧ Below w.heap.size w wr) (fun si _ => p - (intOf si).toNat)
  case atStart => exact ⟨0, newS n, Nat.zero_le _, rfl, HR.out, OrdL.start l n, HL3.out⟩
  case round =>
    obtain ⟨k, S, hk, rfl, hR, hO, hB⟩ := hrel
    have HRK := Lib.hid hR
    have HOK := Lib.hid hO
    have HBB := Lib.hid hB
    clear hR hO hB
    by_cases hkp : k < p
    · have hlt : k < len := by omega
      obtain ⟨b1, o1, m, rfl, hx, hb1, h1⟩ := HL.out.atG hlt
      have hmem := List.mem_of_getElem? hx
      obtain ⟨hmd, hq0, hq1⟩ := HM.out m hmem
      have hdm := HDL.out m hmem
      have HT := Lib.hid (stake_s HRK.out HOK.out (by omega) m hmd HBB.out hq0 hq1 hdm)
      have HNX := Lib.hid (HOK.out.step hmem)
      have hbs := HBB.out.size
      have a0 := cell_later HBB.out (h1 0 _ rfl)
      have a1 := cell_later HBB.out (h1 1 _ rfl)
      have a2 := cell_later HBB.out (h1 2 _ rfl)
      have a3 := cell_later HBB.out (h1 3 _ rfl)
      have a4 := cell_later HBB.out (h1 4 _ rfl)
      have a5 := cell_later HBB.out (h1 5 _ rfl)
      simp only [Nat.add_zero] at a0
      clear h1 hx hmem hmd hq0 hq1 hdm
      go_wp2_with (go_at_call 11; refine HT.out.mono ?_; rintro e w4 ⟨⟨v, rfl⟩, R4, M4⟩; have HR4 := Lib.hid R4; have HB4 := Lib.hid (HBB.out.trans (M4.below hbs hgw hbw)); clear R4 M4)
      go_roundw
      case rel => exact ⟨k + 1, takeS sqG S m, by omega, by go_num, HR4.out, HNX.out, HB4.out⟩
      case measure => simp [intOf]; omega
    · have hkp2 : k = p := by omega
      subst hkp2
      obtain ⟨w5, hw5⟩ : ∃ w5, w5 = wr := ⟨_, rfl⟩
      subst hw5
      have HCP := Lib.hid (scopy_any HRK.out HOK.out.inv (fun m hm => by have := HDL.out m (HOK.out.held m hm); omega))
      have hglt := HRK.out.lt
      clear HRK hkp hk
      go_wp2_with (first
        | (go_at_call 19; refine HCP.out.mono ?_; rintro e w6 ⟨gc, bc, rfl, R6, C6, hgc, hbc, L6⟩; have HR6 := Lib.hid R6; have HC6 := Lib.hid C6; have HB6 := Lib.hid (HBB.out.trans (L6.mono HBB.out.size)); have HCO := Lib.hid (scount_any R6); have HHE := Lib.hid (sheld_any R6); clear R6 C6 L6)
        | (go_at_call 16; refine HCO.out.mono ?_; rintro e w7 ⟨rfl, rfl⟩)
        | (go_at_call 17; refine HHE.out.mono ?_; rintro e w7 ⟨rfl, rfl⟩))
      obtain ⟨cS, hcS⟩ : ∃ cS, cS = S.count := ⟨_, rfl⟩
      obtain ⟨hS, hhS⟩ : ∃ hS, hS = S.held.length := ⟨_, rfl⟩
      have hg1 : g < gc := by omega
      have hg2 : g < bc := by omega
      have hb1' : b < gc := by omega
      have hb2' : b < bc := by omega
      have HC0 := Lib.hid (show cS = S.count ∧ hS = S.held.length from ⟨hcS, hhS⟩)
      rw [← hcS, ← hhS]
      clear hcS hhS HCO HHE HCP hglt
      have HE0 := Lib.hid (show addS (Two10 g b) gc bc g ∧ addS (Two10 g b) gc bc b ∧ addS (Two10 g b) gc bc gc ∧ addS (Two10 g b) gc bc bc from ⟨.inl (.inl rfl), .inl (.inr rfl), .inr (.inl rfl), .inr (.inr rfl)⟩)
      have hgcw : w.heap.size ≤ gc := by omega
      have hbcw : w.heap.size ≤ bc := by omega
      clear hgc hbc
      go_loopw [12] (fun si wr => ∃ (j : Nat) (S2 : Sm Mg), k ≤ j ∧ j ≤ len ∧ si = .int .i64 j ∧ SmRep wr (addS (Two10 g b) gc bc) g b S2 ∧ Hid (S2 = stepsS S ((l.take j).drop k)) ∧ OrdL l j S2 ∧ SmRep wr (addS (Two10 g b) gc bc) gc bc S ∧ Below w.heap.size w wr) (fun si _ => len - (intOf si).toNat)
      case atStart => exact ⟨k, S, Nat.le_refl _, by omega, rfl, HR6.out, Lib.hid (steps_none S l k).symm, HOK.out, HC6.out, HB6.out⟩
      case round =>
        clear HR6 HC6 HB6
        obtain ⟨j, S2, hkj, hj, rfl, hR, HSE, hO, hC, hB⟩ := hrel
        have HRK := Lib.hid hR
        have HOJ := Lib.hid hO
        have HCK := Lib.hid hC
        have HBJ := Lib.hid hB
        clear hR hO hC hB
        by_cases hlt : j < len
        · obtain ⟨b1, o1, m, rfl, hx, hb1, h1⟩ := HL.out.atG hlt
          have hmem := List.mem_of_getElem? hx
          obtain ⟨hmd, hq0, hq1⟩ := HM.out m hmem
          have hdm := HDL.out m hmem
          have HT := Lib.hid (stake_s HRK.out HOJ.out (by omega) m hmd HBJ.out hq0 hq1 hdm)
          have HNX := Lib.hid (HOJ.out.step hmem)
          have HNS := Lib.hid (show takeS sqG S2 m = stepsS S ((l.take (j + 1)).drop k) by rw [steps_next S l k j hkj m hx, ← HSE.out])
          have hbs := HBJ.out.size
          have a0 := cell_later HBJ.out (h1 0 _ rfl)
          have a1 := cell_later HBJ.out (h1 1 _ rfl)
          have a2 := cell_later HBJ.out (h1 2 _ rfl)
          have a3 := cell_later HBJ.out (h1 3 _ rfl)
          have a4 := cell_later HBJ.out (h1 4 _ rfl)
          have a5 := cell_later HBJ.out (h1 5 _ rfl)
          simp only [Nat.add_zero] at a0
          clear h1 hx hmem hmd hq0 hq1 hdm
          go_wp2_with (go_at_call 11; refine HT.out.mono ?_; rintro e w8 ⟨⟨v, rfl⟩, R8, M8⟩; have HR8 := Lib.hid R8; have HC8 := Lib.hid (HCK.out.beside M8 HE0.out.1 HE0.out.2.1 (by omega) (by omega) (by omega) (by omega)); have HB8 := Lib.hid (HBJ.out.trans (M8.below hbs hgw hbw)); clear R8 M8)
          go_roundw
          case rel => exact ⟨j + 1, takeS sqG S2 m, by omega, by omega, by go_num, HR8.out, HNS, HNX.out, HC8.out, HB8.out⟩
          case measure => simp [intOf]; omega
        · have hjl : j = len := by omega
          subst hjl
          obtain ⟨w9, hw9⟩ : ∃ w9, w9 = wr := ⟨_, rfl⟩
          subst hw9
          have HCO := Lib.hid (show Calls Try.prog 16 #[.pointer (some ⟨gc, 0, none⟩)] w9 fun e w' => e = .returned (.int .u32 (cS : Int)) ∧ w9 = w' by rw [HC0.out.1]; exact scount_any HCK.out)
          have HHE := Lib.hid (show Calls Try.prog 17 #[.pointer (some ⟨gc, 0, none⟩)] w9 fun e w' => e = .returned (.int .i64 (hS : Int)) ∧ w9 = w' by rw [HC0.out.2]; exact sheld_any HCK.out)
          clear hlt
          go_wp2_with (first
            | (go_at_call 16; refine HCO.out.mono ?_; rintro e w7 ⟨rfl, rfl⟩)
            | (go_at_call 17; refine HHE.out.mono ?_; rintro e w7 ⟨rfl, rfl⟩))
          go_loopw [13] (fun si wr => ∃ (i : Nat) (S3 : Sm Mg), k ≤ i ∧ i ≤ j ∧ si = .int .i64 i ∧ SmRep wr (addS (Two10 g b) gc bc) gc bc S3 ∧ Hid (S3 = stepsS S ((l.take i).drop k)) ∧ OrdL l i S3 ∧ SmRep wr (addS (Two10 g b) gc bc) g b S2 ∧ Below w.heap.size w wr) (fun si _ => j - (intOf si).toNat)
          case atStart => exact ⟨k, S, Nat.le_refl _, by omega, rfl, HCK.out, Lib.hid (steps_none S l k).symm, HOK.out, HRK.out, HBJ.out⟩
          case round =>
            clear HCO HHE HCK HRK HBJ
            obtain ⟨i, S3, hki, hi, rfl, hR, HSE3, hO, hC, hB⟩ := hrel
            have HRI := Lib.hid hR
            have HOI := Lib.hid hO
            have HCI := Lib.hid hC
            have HBI := Lib.hid hB
            clear hR hO hC hB
            by_cases hlt : i < j
            · obtain ⟨b1, o1, m, rfl, hx, hb1, h1⟩ := HL.out.atG hlt
              have hmem := List.mem_of_getElem? hx
              obtain ⟨hmd, hq0, hq1⟩ := HM.out m hmem
              have hdm := HDL.out m hmem
              have HT := Lib.hid (stake_s HRI.out HOI.out (by omega) m hmd HBI.out hq0 hq1 hdm)
              have HNX := Lib.hid (HOI.out.step hmem)
              have HNS := Lib.hid (show takeS sqG S3 m = stepsS S ((l.take (i + 1)).drop k) by rw [steps_next S l k i hki m hx, ← HSE3.out])
              have hbs := HBI.out.size
              have a0 := cell_later HBI.out (h1 0 _ rfl)
              have a1 := cell_later HBI.out (h1 1 _ rfl)
              have a2 := cell_later HBI.out (h1 2 _ rfl)
              have a3 := cell_later HBI.out (h1 3 _ rfl)
              have a4 := cell_later HBI.out (h1 4 _ rfl)
              have a5 := cell_later HBI.out (h1 5 _ rfl)
              simp only [Nat.add_zero] at a0
              clear h1 hx hmem hmd hq0 hq1 hdm
              go_wp2_with (go_at_call 11; refine HT.out.mono ?_; rintro e w8 ⟨⟨v, rfl⟩, R8, M8⟩; have HR8 := Lib.hid R8; have HC8 := Lib.hid (HCI.out.beside M8 HE0.out.2.2.1 HE0.out.2.2.2 (by omega) (by omega) (by omega) (by omega)); have HB8 := Lib.hid (HBI.out.trans (M8.below hbs hgcw hbcw)); clear R8 M8)
              go_roundw
              case rel => exact ⟨i + 1, takeS sqG S3 m, by omega, by omega, by go_num, HR8.out, HNS, HNX.out, HC8.out, HB8.out⟩
              case measure => simp [intOf]; omega
            · have hij : i = j := by omega
              subst hij
              have hs : S3 = S2 := by rw [HSE3.out, HSE.out]
              subst hs
              have CO1 := Lib.hid (scount_any HRI.out)
              have HE1 := Lib.hid (sheld_any HRI.out)
              have CO2 := Lib.hid (scount_any HCI.out)
              have HE2 := Lib.hid (sheld_any HCI.out)
              generalize S3.count = c3 at *
              generalize S3.held.length = h3 at *
              go_wp2_with (first
                | (go_at_call 16; refine CO1.out.mono ?_; rintro e w7 ⟨rfl, rfl⟩)
                | (go_at_call 16; refine CO2.out.mono ?_; rintro e w7 ⟨rfl, rfl⟩)
                | (go_at_call 17; refine HE1.out.mono ?_; rintro e w7 ⟨rfl, rfl⟩)
                | (go_at_call 17; refine HE2.out.mono ?_; rintro e w7 ⟨rfl, rfl⟩))
              go_ret
              exact ⟨rfl, HBI.out⟩
theorem walk_StreamCopies {w : World} (n : Int) (wn : (Lit.int .i64 n).wf = true) (ao : Option Addr) (len cap : Nat) (l : List Mg) (hl : Lst encG 6 w ao len l ∧ (ao = none → cap = 0) ∧ ∀ m ∈ l, DpIn w m ∧ 0 ≤ m.q ∧ m.q < 4294967296) (at_ : Int) (wa : (Lit.int .i64 at_).wf = true) :
    Calls Try.prog 5 #[.int .i64 n, .slice ao len cap, .int .i64 at_] w fun e w' => e = .returned (.bool true) ∧ Below w.heap.size w w' := by
  have b0 := Go.bounds_i64 wn
  exact copies_core n (by omega) (by omega) ao len cap l at_ w hl.1 hl.2.2
end Go.Proofs.Ytcnfkjjfegjecaa
