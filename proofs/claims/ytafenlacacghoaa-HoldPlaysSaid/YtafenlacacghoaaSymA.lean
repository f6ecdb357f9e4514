/- The stable sort's family: symMerge where the left part has one element. -/
import Derived.Test.YtafenlacacghoaaRotate
set_option linter.unusedVariables false
set_option linter.unusedSimpArgs false
namespace Go.Proofs.Ytafenlacacghoaa
open Go.Shelf Go.RowKit Go.Lib Go.Sort
variable {P : Program} {α : Type} [Inhabited α]

theorem half (i j : Nat) : ((i : Int) + (j : Int)) / 2 = (((i + j) / 2 : Nat) : Int) := by omega

set_option maxHeartbeats 8000000 in
set_option maxRecDepth 1000000 in
theorem symA_any (k : Nat) (F : Fam P k) (enc : α → List Value) (key : α → K) (cf : α → α → Int) (hcf : ∀ x y, cf x y < 0 ↔ (key x).less (key y) = true) (g : Nat) (cb : Array Value) (eg : ∀ args w, (callFunc g args).run P w = .ok (.enter g args) w)
    (blk off len cap a m b : Nat) (d0 : Array α) (w0 w : World) (X : List α) (x : α) (B Z : List α) (hcmp : CmpLays P g cb enc k cf blk off d0.size w0)
    (R : RowK enc k w0 blk off d0) (hs : d0.size = len) (S : SWK enc k w0 blk off (X ++ x :: (B ++ Z)).toArray w)
    (hL : (X ++ x :: (B ++ Z)).length = len) (hX : X.length = a) (hm : a + 1 = m) (hB : m + B.length = b) (hB0 : 0 < B.length) (hsB : Srt key B) (hsz : len < 4611686018427387904) :
    Calls P 50 #[.slice (some ⟨blk, off, none⟩) len cap, .int .i64 a, .int .i64 m, .int .i64 b, .func (.func g) #[] cb] w fun e w' => e = .returned (.tuple #[]) ∧ ∃ M, IsSrt key (x :: B) M ∧ SWK enc k w0 blk off (X ++ (M ++ Z)).toArray w' := by
  have mixed := F.mixed; have t0 := F.t0; have a0 := F.a0; have z0 := F.z0; have v0 := F.v0; have t3 := F.t3; have a3 := F.a3; have z3 := F.z3; have v3 := F.v3; have t4 := F.t4; have a4 := F.a4; have z4 := F.z4; have v4 := F.v4; have t40 := F.t40; have a40 := F.a40; have z40 := F.z40; have v40 := F.v40; have t64 := F.t64; have a64 := F.a64; have z64 := F.z64; have v64 := F.v64; have t71 := F.t71; have a71 := F.a71; have z71 := F.z71; have v71 := F.v71; have aE := F.aE; have zE := F.zE
  have u3 := run_underlying F.t3; have u71 := run_underlying F.t71
  have FG := F.fm
  have HC : Aside _ := hcmp
  have HCF := Lib.hid hcf
  obtain ⟨dk, hdk⟩ : ∃ dk, dk = (X ++ x :: (B ++ Z)).toArray := ⟨_, rfl⟩
  have S0 : Aside (SWK enc k w0 blk off dk w) := by rw [hdk]; exact S
  have hds : dk.size = len := by rw [hdk, List.size_toArray]; exact hL
  have hds0 : dk.size = d0.size := by rw [hds, hs]
  have hbb : b ≤ len := by simp only [List.length_append, List.length_cons] at hL; omega
  have hxa : dk[a]! = x := by rw [hdk, ← hX]; exact list_at X (B ++ Z) x
  have hxb : ∀ C y D, B = C ++ y :: D → dk[m + C.length]! = y := fun C y D e => by
    have := list_at (X ++ x :: C) (D ++ Z) y
    rw [hdk, e]
    rw [List.append_assoc, List.length_append, List.length_cons] at this
    rw [show m + C.length = X.length + (C.length + 1) by omega]
    simp only [List.append_assoc, List.cons_append] at this ⊢
    exact this
  have HXA := Lib.hid hxa
  have HXB := Lib.hid hxb
  have HDK := Lib.hid hdk
  have HX := Lib.hid hX
  have HM := Lib.hid hm
  have HB := Lib.hid hB
  have HSB := Lib.hid hsB
  have HDS := Lib.hid hds
  have HDS0 := Lib.hid hds0
  have hm1 : ((m : Int) - (a : Int) == 1) = true := by simp; omega
  have hmb : m < b := by omega
  have ham : a < m := by omega
  have HS := Lib.hid hs
  clear S hL hX hm hB hB0 hsB hdk hxa hxb hds hds0 hcmp hcf F hs
  go_enter FG, Try.ntmps50
  go_wp2_with fail
  go_loopg [10, 11] (b - m) (fun kx s10 s11 wr => ∃ i j : Nat, s10 = .int .i64 i ∧ s11 = .int .i64 j ∧ m ≤ i ∧ i ≤ j ∧ j ≤ b ∧ j - i ≤ kx ∧ Aside (SWK enc k w0 blk off dk wr) ∧
    Hid ((∀ h, m ≤ h → h + 1 = i → (key dk[h]!).less (key x) = true) ∧ (j < b → (key dk[j]!).less (key x) = false)))
  case atStart => exact ⟨m, b, rfl, rfl, Nat.le_refl _, by omega, Nat.le_refl _, Nat.le_refl _, S0, Lib.hid ⟨fun h h1 h2 => by omega, fun h => by omega⟩⟩
  case round =>
    clear S0
    obtain ⟨i, j, rfl, rfl, hmi, hij, hjb, hkx, S1, HI⟩ := hrel
    by_cases hlt : i < j
    · obtain ⟨h, hh⟩ : ∃ h, h = (i + j) / 2 := ⟨_, rfl⟩
      have hz := half i j
      rw [← hh] at hz
      have HZ := Lib.hid hz
      have hh1 : i ≤ h := by omega
      have hh2 : h < j := by omega
      clear hh hz
      go_wp2_with fail
      rw [HZ.out]
      have hdl := HDS.out
      have hd0 := HDS0.out
      have l1 := S1.out.ld R hd0 P h (by omega)
      have l2 := S1.out.ld R hd0 P a (by omega)
      have hc := S1.out.cmp HC.out hd0 dk[h]! dk[a]!
      have hv := HCF.out dk[h]! dk[a]!
      rw [HXA.out] at l2 hc hv
      clear hdl hd0
      obtain ⟨y, hy⟩ : ∃ y, y = dk[h]! := ⟨_, rfl⟩
      rw [← hy] at l1 hc hv
      have HY := Lib.hid hy
      have hb1 : (h : Int) < (len : Int) := by omega
      have hb2 : (a : Int) < (len : Int) := by omega
      clear hy
      by_cases hlv : cf y x < 0
      · have HV := Lib.hid (hv.1 hlv)
        have hd : decide (cf y x < 0) = true := decide_eq_true hlv
        clear hv
        go_wp2_with fail
        go_quiet_grown (first | (go_at_fn g; refine Calls.grown_of (hc _ _)))
        have S2 : Aside (SWK enc k w0 blk off dk (grow (wr.drewN nq) osq)) := S1.out.grown nq osq
        clear l1 l2 hc S1
        generalize grow (wr.drewN nq) osq = w2 at S2 ⊢
        go_wp2_with fail
        go_roundg (j - (h + 1))
        case measure => omega
        case rel => exact ⟨h + 1, j, by go_num, rfl, by omega, by omega, hjb, Nat.le_refl _, S2, Lib.hid ⟨fun t ht1 ht2 => by
          obtain rfl : t = h := by omega
          rw [← HY.out]; exact HV.out, HI.out.2⟩⟩
      · have HV := Lib.hid (show (key y).less (key x) = false by
          rcases hq : (key y).less (key x) with _ | _
          · rfl
          · exact absurd (hv.2 hq) hlv)
        have hd : decide (cf y x < 0) = false := decide_eq_false hlv
        clear hv
        go_wp2_with fail
        go_quiet_grown (first | (go_at_fn g; refine Calls.grown_of (hc _ _)))
        have S2 : Aside (SWK enc k w0 blk off dk (grow (wr.drewN nq) osq)) := S1.out.grown nq osq
        clear l1 l2 hc S1
        generalize grow (wr.drewN nq) osq = w2 at S2 ⊢
        go_wp2_with fail
        go_roundg (h - i)
        case measure => omega
        case rel => exact ⟨i, h, rfl, rfl, hmi, hh1, by omega, Nat.le_refl _, S2, Lib.hid ⟨HI.out.1, fun _ => by rw [← HY.out]; exact HV.out⟩⟩
    · have hji : j = i := by omega
      obtain ⟨c, hc⟩ : ∃ c, c = i - m := ⟨_, rfl⟩
      have hci : m + c = i := by omega
      have hcl : c ≤ B.length := by have := HB.out; omega
      obtain ⟨B1, B2, hb12, hb1l⟩ : ∃ B1 B2, B = B1 ++ B2 ∧ B1.length = c := ⟨B.take c, B.drop c, (List.take_append_drop _ _).symm, by rw [List.length_take]; omega⟩
      have HRES : Hid (IsSrt key (x :: B) (B1 ++ x :: B2)) := by
        refine Lib.hid ?_
        have hsb := HSB.out
        rw [hb12] at hsb ⊢
        refine put_first hsb (fun A y e => ?_) (fun y D e => ?_)
        · have hl : A.length + 1 = c := by rw [← hb1l, e, List.length_append]; rfl
          have h1 := HI.out.1 (m + A.length) (by omega) (by omega)
          rw [HXB.out A y B2 (by rw [hb12, e]; simp)] at h1
          exact h1
        · have h0 : B.length = c + B2.length := by rw [hb12, List.length_append, hb1l]
          have hne : j < b := by have := HB.out; rw [e, List.length_cons] at h0; omega
          have h1 := HI.out.2 hne
          rw [show j = m + B1.length by omega, HXB.out B1 y D (by rw [hb12, e])] at h1
          exact h1
      have HB12 := Lib.hid (And.intro hb12 hb1l)
      have S1' : Aside (SWK enc k w0 blk off (X ++ ([] ++ x :: (B1 ++ (B2 ++ Z)))).toArray wr) := by
        have := S1.out
        rw [HDK.out, hb12, List.append_assoc] at this
        exact this
      have HHL : Hid (X.length + B.length + Z.length + 1 = len) := Lib.hid (by
        have := HDS.out
        rw [HDK.out, List.size_toArray] at this
        simp only [List.length_append, List.length_cons] at this
        omega)
      have hil : i ≤ len := by omega
      have hi1 : (i : Int) - 1 = ((a + c : Nat) : Int) := by have := HM.out; omega
      have HI1 := Lib.hid hi1
      have hjz : ¬ (i : Int) < (j : Int) := by omega
      have hacm : a + c < len := by have := HM.out; have := HB.out; omega
      clear hb12 hb1l hc hci hi1 S1 hji HI hkx
      go_wp2_with fail
      go_loopg [13] c (fun kx s13 w2 => ∃ (t : Nat) (C1 C2 : List α), s13 = .int .i64 (a + t : Nat) ∧ t ≤ c ∧ c - t ≤ kx ∧ Hid (B1 = C1 ++ C2 ∧ C1.length = t) ∧ Aside (SWK enc k w0 blk off (X ++ (C1 ++ x :: (C2 ++ (B2 ++ Z)))).toArray w2))
      case atStart => exact ⟨0, [], B1, rfl, Nat.zero_le _, Nat.le_refl _, Lib.hid ⟨rfl, rfl⟩, S1'⟩
      case round =>
        clear S1'
        obtain ⟨t, C1, C2, rfl, htc, hkx, HP, S1⟩ := hrel
        by_cases htl : t < c
        · obtain ⟨y, C3, hC2⟩ : ∃ y C3, C2 = y :: C3 := by
            match C2 with
            | y :: C3 => exact ⟨y, C3, rfl⟩
            | [] => have h1 := HP.out.1; have h2 := HP.out.2; have h3 := HB12.out.2; rw [h1, List.append_nil] at h3; omega
          subst hC2
          obtain ⟨dj, hdj⟩ : ∃ dj, dj = (X ++ (C1 ++ x :: (y :: C3 ++ (B2 ++ Z)))).toArray := ⟨_, rfl⟩
          have hsj : dj.size = len := by
            have h1 := HB12.out.1
            have h2 := HP.out.1
            have h3 := HHL.out
            rw [hdj, List.size_toArray]
            rw [h1, h2] at h3
            simp only [List.length_append, List.length_cons] at h3 ⊢
            omega
          have hsj0 : dj.size = d0.size := by rw [hsj, HS.out]
          have hsw : Hid (swp dj (a + t) (a + t + 1) = (X ++ ((C1 ++ [y]) ++ x :: (C3 ++ (B2 ++ Z)))).toArray) := by
            refine Lib.hid ?_
            have := swp_list (X ++ C1) [] (C3 ++ (B2 ++ Z)) x y (a + t) (a + t + 1) (by rw [List.length_append, HX.out, HP.out.2]) (by rw [List.length_append, HX.out, HP.out.2]; rfl)
            rw [hdj]
            simp only [List.append_assoc, List.nil_append, List.cons_append, List.singleton_append] at this ⊢
            exact this
          have S1' : Aside (SWK enc k w0 blk off dj wr) := by rw [hdj]; exact S1
          have S2 : Aside (SWK enc k w0 blk off (swp dj (a + t) (a + t + 1)) ((wr.drew.setCells blk (off + (a + t) * k) (enc dj[a + t + 1]!)).setCells blk (off + (a + t + 1) * k) (enc dj[a + t]!))) := S1'.out.swapped R (a + t) (a + t + 1) (by omega) (by omega)
          have l1 := S1'.out.ld1 R hsj0 P (a + t) (by omega)
          have l2 := S1'.out.ld1 R hsj0 P (a + t + 1) (by omega)
          have s1 := S1'.out.st1 R hsj0 P (a + t) (by omega) dj[a + t + 1]!
          have s2 := S1'.out.st2 R hsj0 P (a + t) (a + t + 1) (by omega) (by omega) dj[a + t + 1]! dj[a + t]!
          have n1 : (enc dj[a + t]!).length = k := R.hk _
          have n2 : (enc dj[a + t + 1]!).length = k := R.hk _
          generalize enc dj[a + t]! = cI at S2 l1 s2 n1
          generalize enc dj[a + t + 1]! = cJ at S2 l2 s1 s2 n2
          clear S1 S1' hdj hsj hsj0
          rw [hsw.out] at S2
          obtain ⟨u, hu⟩ : ∃ u, u = a + t := ⟨_, rfl⟩
          rw [← hu] at l1 l2 s1 s2 S2 ⊢
          have HU := Lib.hid hu
          have hul : u < a + c := by omega
          clear hu
          have htl' : (u : Int) < (i : Int) - 1 := by have := HI1.out; omega
          have bu : (u : Int) < (len : Int) := by omega
          have eu : ((u : Int) + 1).toNat = u + 1 := by omega
          have pu : (0 : Int) ≤ (u : Int) + 1 := by omega
          have bu1 : (u : Int) + 1 < (len : Int) := by omega
          have ru : IntKind.i64.wrap ((u : Int) + 1) = (u : Int) + 1 := by rw [IntKind.wrap_i64]; omega
          go_wp2_with fail
          go_big_region_o
          clear l1 l2 s1 s2
          generalize (wr.drew.setCells blk (off + u * k) cJ).setCells blk (off + (u + 1) * k) cI = w2 at S2 ⊢
          go_wp2_with fail
          go_roundg (c - (t + 1))
          case measure => omega
          case rel =>
            refine ⟨t + 1, C1 ++ [y], C3, by rw [show a + (t + 1) = u + 1 by have := HU.out; omega]; go_num, by omega, Nat.le_refl _, Lib.hid ⟨by rw [HP.out.1]; simp, by rw [List.length_append, HP.out.2]; rfl⟩, S2⟩
        · have hc2 : C2 = [] := List.eq_nil_of_length_eq_zero (by have h1 := HP.out.1; have h2 := HP.out.2; have h3 := HB12.out.2; rw [h1, List.length_append] at h3; omega)
          have htz : ¬ ((a + t : Nat) : Int) < (i : Int) - 1 := by have := HI1.out; omega
          have S3 : Aside (SWK enc k w0 blk off (X ++ ((B1 ++ x :: B2) ++ Z)).toArray wr) := by
            have h := S1.out
            rw [hc2, List.nil_append] at h
            rw [HP.out.1, hc2, List.append_nil, List.append_assoc]
            exact h
          clear S1 hc2
          go_wp2_with fail
          (try simp only [Exit.inBlock, Exit.then]); refine bodyPost_ret (results_none rfl _ _ _) rfl ?_
          exact ⟨rfl, _, HRES.out, S3.out⟩
end Go.Proofs.Ytafenlacacghoaa
