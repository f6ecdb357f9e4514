/- The stable sort's family: symMerge, whole: two sorted runs, one behind the other, become one. Written by wip/gen_sym.py. -/
import Derived.Test.YtfocjcdfpnbkjaaZRotates
set_option linter.unusedVariables false
set_option linter.unusedSimpArgs false
namespace Go.Proofs.Ytfocjcdfpnbkjaa
open Go.Shelf Go.RowKit Go.Lib Go.Sort
variable {P : Program} {α : Type} [Inhabited α]

/-- What the search begins with: where it looks (lo to hi), and what its ends are. -/
structure Ends (a m b mid lo hi : Nat) : Prop where
  lh : lo ≤ hi
  hm : hi ≤ m
  hmid : hi ≤ mid
  la : a ≤ lo
  lb : mid + m ≤ lo + b
  hie : hi = mid ∨ hi = m
  loe : lo + b = mid + m ∨ lo = a
theorem Ends.first {a m b mid : Nat} (h : mid = (a + b) / 2) (ham : a < m) (hmb : m < b) (hl : mid < m) : Ends a m b mid (mid + m - b) mid := ⟨by omega, by omega, by omega, by omega, by omega, .inl rfl, .inl (by omega)⟩
theorem Ends.second {a m b mid : Nat} (h : mid = (a + b) / 2) (ham : a < m) (hmb : m < b) (hl : ¬ mid < m) : Ends a m b mid a m := ⟨by omega, by omega, by omega, by omega, by omega, .inr rfl, .inr rfl⟩

/-- Where the search ends: the lists cut in two, and what the merge needs of it. -/
theorem cut_parts {key : α → K} {a m b mid lo hi s : Nat} (E : Ends a m b mid lo hi) {X A B Z : List α} {dk : Array α} (hdk : dk = (X ++ (A ++ (B ++ Z))).toArray) (hX : X.length = a) (hA : a + A.length = m) (hB : m + B.length = b)
    (hls : lo ≤ s) (hsh : s ≤ hi) (h1 : ∀ c, lo ≤ c → c + 1 = s → (key dk[mid + m - 1 - c]!).less (key dk[c]!) = false) (h2 : s < hi → (key dk[mid + m - 1 - s]!).less (key dk[s]!) = true) :
    ∃ A1 A2 B1 B2, A = A1 ++ A2 ∧ B = B1 ++ B2 ∧ a + A1.length = s ∧ B1.length + s = mid ∧
      (∀ C x y D, A1 = C ++ [x] → B2 = y :: D → (key y).less (key x) = false) ∧ (∀ C x y D, B1 = C ++ [x] → A2 = y :: D → (key x).less (key y) = true) := by
  obtain ⟨lh, hm, hmid, la, lb, hie, loe⟩ := E
  have atA : ∀ C y D, A = C ++ y :: D → dk[a + C.length]! = y := fun C y D e => by
    have := list_at (X ++ C) (D ++ (B ++ Z)) y
    rw [List.append_assoc, List.length_append] at this
    rw [hdk, e, show a + C.length = X.length + C.length by omega]
    simp only [List.append_assoc, List.cons_append] at this ⊢
    exact this
  have atB : ∀ C y D, B = C ++ y :: D → dk[m + C.length]! = y := fun C y D e => by
    have := list_at (X ++ (A ++ C)) (D ++ Z) y
    rw [List.append_assoc, List.length_append, List.length_append] at this
    rw [hdk, e, show m + C.length = X.length + (A.length + C.length) by omega]
    simp only [List.append_assoc, List.cons_append] at this ⊢
    exact this
  refine ⟨A.take (s - a), A.drop (s - a), B.take (mid - s), B.drop (mid - s), (List.take_append_drop _ _).symm, (List.take_append_drop _ _).symm, ?_, ?_, ?_, ?_⟩
  · rw [List.length_take]; omega
  · rw [List.length_take]; omega
  · intro C x y D e1 e2
    have l1 : C.length + 1 = s - a := by
      have := congrArg List.length e1
      rw [List.length_take, List.length_append, List.length_singleton] at this
      omega
    have l2 : mid - s < B.length := by
      have := congrArg List.length e2
      rw [List.length_drop, List.length_cons] at this
      omega
    have hA' : A = C ++ x :: A.drop (s - a) := by
      conv => lhs; rw [← List.take_append_drop (s - a) A, e1]
      simp
    have hB' : B = B.take (mid - s) ++ y :: D := by
      conv => lhs; rw [← List.take_append_drop (mid - s) B, e2]
    have x1 := atA C x _ hA'
    have x2 := atB _ y D hB'
    rw [List.length_take, Nat.min_eq_left (by omega)] at x2
    have h3 := h1 (s - 1) (by omega) (by omega)
    rw [show s - 1 = a + C.length by omega, x1, show mid + m - 1 - (a + C.length) = m + (mid - s) by omega, x2] at h3
    exact h3
  · intro C x y D e1 e2
    have l1 : C.length + 1 = mid - s := by
      have := congrArg List.length e1
      rw [List.length_take, List.length_append, List.length_singleton] at this
      omega
    have l2 : s - a < A.length := by
      have := congrArg List.length e2
      rw [List.length_drop, List.length_cons] at this
      omega
    have hA' : A = A.take (s - a) ++ y :: D := by
      conv => lhs; rw [← List.take_append_drop (s - a) A, e2]
    have hB' : B = C ++ x :: B.drop (mid - s) := by
      conv => lhs; rw [← List.take_append_drop (mid - s) B, e1]
      simp
    have x1 := atA _ y D hA'
    have x2 := atB C x _ hB'
    rw [List.length_take, Nat.min_eq_left (by omega)] at x1
    have h3 := h2 (by omega)
    rw [show mid + m - 1 - s = m + C.length by omega, x2, show s = a + (s - a) by omega, x1] at h3
    exact h3

set_option maxHeartbeats 40000000 in
set_option maxRecDepth 1000000 in
theorem sym_any (k : Nat) (F : Fam P k) (enc : α → List Value) (key : α → K) (cf : α → α → Int) (hcf : ∀ x y, cf x y < 0 ↔ (key x).less (key y) = true) (g : Nat) (cb : Array Value) (eg : ∀ args w, (callFunc g args).run P w = .ok (.enter g args) w)
    (blk off len cap : Nat) (d0 : Array α) (w0 : World) (hcmp : CmpLays P g cb enc k cf blk off d0.size w0) (R : RowK enc k w0 blk off d0) (hs : d0.size = len) (hsz : len < 4611686018427387904) :
    ∀ (N a m b : Nat) (X A B Z : List α) (w : World), A.length + B.length ≤ N → SWK enc k w0 blk off (X ++ (A ++ (B ++ Z))).toArray w → (X ++ (A ++ (B ++ Z))).length = len → X.length = a → a + A.length = m → m + B.length = b →
      0 < A.length → 0 < B.length → Srt key A → Srt key B →
      Calls P 149 #[.slice (some ⟨blk, off, none⟩) len cap, .int .i64 a, .int .i64 m, .int .i64 b, .func (.func g) #[] cb] w fun e w' => e = .returned (.tuple #[]) ∧ ∃ M, IsSrt key (A ++ B) M ∧ SWK enc k w0 blk off (X ++ (M ++ Z)).toArray w' := by
  intro N
  induction N with
  | zero => intro a m b X A B Z w h1 _ _ _ _ _ h2; omega
  | succ N ih =>
    intro a m b X A B Z w hN S hL hX hA hB hA0 hB0 hsA hsB
    by_cases hA1 : A.length = 1
    · match A, hA1 with
      | [x], _ => exact symA_any k F enc key cf hcf g cb eg blk off len cap a m b d0 w0 w X x B Z hcmp R hs S hL hX (by simpa using hA) hB hB0 hsB hsz
    by_cases hB1 : B.length = 1
    · match B, hB1 with
      | [y], _ => exact symB_any k F enc key cf hcf g cb eg blk off len cap a m b d0 w0 w X y A Z hcmp R hs S hL hX hA (by simpa using hB) (by omega) hsA hsz
    have e44 : ∀ args w, (callFunc 149 args).run P w = .ok (.enter 149 args) w := enters_of F.fm (by kernel_rfl) rfl
    have e45 : ∀ args w, (callFunc 150 args).run P w = .ok (.enter 150 args) w := enters_of F.fr (by kernel_rfl) rfl
    have mixed := F.mixed; have t0 := F.t0; have a0 := F.a0; have z0 := F.z0; have v0 := F.v0; have t3 := F.t3; have a3 := F.a3; have z3 := F.z3; have v3 := F.v3; have t4 := F.t4; have a4 := F.a4; have z4 := F.z4; have v4 := F.v4; have t40 := F.t40; have a40 := F.a40; have z40 := F.z40; have v40 := F.v40; have t64 := F.t64; have a64 := F.a64; have z64 := F.z64; have v64 := F.v64; have t71 := F.t71; have a71 := F.a71; have z71 := F.z71; have v71 := F.v71; have aE := F.aE; have zE := F.zE
    have u3 := run_underlying F.t3; have u71 := run_underlying F.t71
    have FG := F.fm
    have HF := Lib.hid F
    have HC : Aside _ := hcmp
    have HCF := Lib.hid hcf
    have IH := Lib.hid ih
    obtain ⟨dk, hdk⟩ : ∃ dk, dk = (X ++ (A ++ (B ++ Z))).toArray := ⟨_, rfl⟩
    have S0 : Aside (SWK enc k w0 blk off dk w) := by rw [hdk]; exact S
    have hds : dk.size = len := by rw [hdk, List.size_toArray]; exact hL
    have hds0 : dk.size = d0.size := by rw [hds, hs]
    have hbb : b ≤ len := by simp only [List.length_append] at hL; omega
    have hm1 : ((m : Int) - (a : Int) == 1) = false := by simp; omega
    have hb1 : ((b : Int) - (m : Int) == 1) = false := by simp; omega
    have ham : a < m := by omega
    have hmb : m < b := by omega
    have HDK := Lib.hid hdk
    have HX := Lib.hid hX
    have HA := Lib.hid hA
    have HB := Lib.hid hB
    have HSA := Lib.hid hsA
    have HSB := Lib.hid hsB
    have HDS := Lib.hid hds
    have HDS0 := Lib.hid hds0
    have HS := Lib.hid hs
    have HN := Lib.hid hN
    have HLL : Hid (X.length + (A.length + (B.length + Z.length)) = len) := Lib.hid (by simpa only [List.length_append] using hL)
    obtain ⟨mid, hmid⟩ : ∃ mid, mid = (a + b) / 2 := ⟨_, rfl⟩
    have hz := half a b
    rw [← hmid] at hz
    have HZ := Lib.hid hz
    have ham2 : a < mid := by omega
    have hmb2 : mid < b := by omega
    have HMID := Lib.hid hmid
    clear S hL hX hA hB hsA hsB hdk hds hds0 hcmp hcf F hs hA1 hB1 hA0 hB0 ih hN
    by_cases hmm : mid < m
    · obtain ⟨lo, hlo⟩ : ∃ lo, lo = mid + m - b := ⟨_, rfl⟩
      obtain ⟨hi, hhi⟩ : ∃ hi, mid = hi := ⟨_, rfl⟩
      obtain ⟨n, hn⟩ : ∃ n, n = mid + m := ⟨_, rfl⟩
      obtain ⟨p, hp⟩ : ∃ p, p = mid + m - 1 := ⟨_, rfl⟩
      have HE : Hid (Ends a m b mid lo hi) := Lib.hid (by rw [hlo, ← hhi]; exact Ends.first HMID.out ham hmb hmm)
      have hq : ((a : Int) + (b : Int)) / 2 < (m : Int) := by rw [hz]; omega
      have r1 : (mid : Int) + (m : Int) - 1 = (p : Int) := by omega
      have r2 : (mid : Int) + (m : Int) = (n : Int) := by omega
      have r3 : (n : Int) - (b : Int) = (lo : Int) := by have := HE.out.lb; omega
      have r4 : (mid : Int) = (hi : Int) := by omega
      have HP1 := Lib.hid r1
      have HP2 := Lib.hid r2
      have HNN := Lib.hid hn
      have HPP := Lib.hid hp
      have HP3 := Lib.hid r3
      obtain rfl : mid = hi := hhi
      clear r1 r2 r3 r4 hlo hz hmid hn hp
      go_enter FG, Try.ntmps149
      go_wp2_with fail
      rw [HZ.out, HP1.out, HP2.out]
      rw [HP3.out]
      go_loopg [20, 21] (mid - lo) (fun kx s20 s21 wr => ∃ s r : Nat, s20 = .int .i64 s ∧ s21 = .int .i64 r ∧ lo ≤ s ∧ s ≤ r ∧ r ≤ mid ∧ r - s ≤ kx ∧ Aside (SWK enc k w0 blk off dk wr) ∧
        Hid ((∀ c, lo ≤ c → c + 1 = s → (key dk[mid + m - 1 - c]!).less (key dk[c]!) = false) ∧ (r < mid → (key dk[mid + m - 1 - r]!).less (key dk[r]!) = true)))
      case atStart => exact ⟨lo, mid, rfl, rfl, Nat.le_refl _, HE.out.lh, Nat.le_refl _, Nat.le_refl _, S0, Lib.hid ⟨fun c h1 h2 => by omega, fun h => by omega⟩⟩
      case round =>
        clear S0
        obtain ⟨s, r, rfl, rfl, hls, hsr, hrh, hkx, S1, HI⟩ := hrel
        have E := HE.out
        have x1 := E.hm
        have x2 := E.hmid
        have x3 := E.la
        have x4 := E.lb
        clear E
        by_cases hlt : s < r
        · obtain ⟨c, hc0⟩ : ∃ c, c = (s + r) / 2 := ⟨_, rfl⟩
          have hz := half s r
          rw [← hc0] at hz
          have HZ2 := Lib.hid hz
          have hc1 : s ≤ c := by omega
          have hc2 : c < r := by omega
          clear hc0 hz
          have hp := HPP.out
          have hpc : c ≤ p := by omega
          have hpl : p < len + len := by omega
          have ea : ((p : Int) - (c : Int)).toNat = mid + m - 1 - c := by omega
          have pa : (0 : Int) ≤ (p : Int) - (c : Int) := by omega
          have ba : (p : Int) - (c : Int) < (len : Int) := by omega
          have bc : (c : Int) < (len : Int) := by omega
          have ra : IntKind.i64.wrap ((p : Int) - (c : Int)) = (p : Int) - (c : Int) := by rw [IntKind.wrap_i64]; omega
          clear hp
          have hdl := HDS.out
          have hd0 := HDS0.out
          have l1 := S1.out.ld R hd0 P (mid + m - 1 - c) (by omega)
          have l2 := S1.out.ld R hd0 P c (by omega)
          have hc := S1.out.cmp HC.out hd0 dk[mid + m - 1 - c]! dk[c]!
          have hv := HCF.out dk[mid + m - 1 - c]! dk[c]!
          clear hdl hd0
          obtain ⟨y, hy⟩ : ∃ y, y = dk[mid + m - 1 - c]! := ⟨_, rfl⟩
          obtain ⟨z, hz⟩ : ∃ z, z = dk[c]! := ⟨_, rfl⟩
          rw [← hy] at l1 hc hv
          rw [← hz] at l2 hc hv
          have HY := Lib.hid hy
          have HW := Lib.hid hz
          clear hy hz
          go_wp2_with fail
          rw [HZ2.out]
          by_cases hlv : cf y z < 0
          · have HV := Lib.hid (hv.1 hlv)
            have hd : decide (cf y z < 0) = true := decide_eq_true hlv
            clear hv
            go_wp2_with fail
            go_quiet_grown (first | (go_at_fn g; refine Calls.grown_of (hc _ _)))
            have S2 : Aside (SWK enc k w0 blk off dk (grow (wr.drewN nq) osq)) := S1.out.grown nq osq
            clear l1 l2 hc S1
            generalize grow (wr.drewN nq) osq = w2 at S2 ⊢
            go_wp2_with fail
            go_roundg (c - s)
            case measure => omega
            case rel => exact ⟨s, c, rfl, rfl, hls, hc1, by omega, Nat.le_refl _, S2, Lib.hid ⟨HI.out.1, fun _ => by rw [← HY.out, ← HW.out]; exact HV.out⟩⟩
          · have HV := Lib.hid (show (key y).less (key z) = false by
              rcases hq : (key y).less (key z) with _ | _
              · rfl
              · exact absurd (hv.2 hq) hlv)
            have hd : decide (cf y z < 0) = false := decide_eq_false hlv
            clear hv
            go_wp2_with fail
            go_quiet_grown (first | (go_at_fn g; refine Calls.grown_of (hc _ _)))
            have S2 : Aside (SWK enc k w0 blk off dk (grow (wr.drewN nq) osq)) := S1.out.grown nq osq
            clear l1 l2 hc S1
            generalize grow (wr.drewN nq) osq = w2 at S2 ⊢
            go_wp2_with fail
            go_roundg (r - (c + 1))
            case measure => omega
            case rel => exact ⟨c + 1, r, by go_num, rfl, by omega, by omega, hrh, Nat.le_refl _, S2, Lib.hid ⟨fun t ht1 ht2 => by
              obtain rfl : t = c := by omega
              rw [← HY.out, ← HW.out]; exact HV.out, HI.out.2⟩⟩
        · have hrs : r = s := by omega
          have hcut := cut_parts HE.out HDK.out HX.out HA.out HB.out hls (by omega : s ≤ mid) HI.out.1 (by have := HI.out.2; rw [hrs] at this; exact this)
          obtain ⟨A1, A2, B1, B2, hab⟩ := hcut
          have HAB := Lib.hid hab
          obtain ⟨e, he⟩ : ∃ e, e = mid + m - s := ⟨_, rfl⟩
          have hn := HNN.out
          have hns : s ≤ n := by omega
          have hnl : n ≤ len + len := by omega
          have he2 : (n : Int) - (s : Int) = (e : Int) := by omega
          have HE2 := Lib.hid he2
          have HQ1 : Hid (s + A2.length = m) := Lib.hid (by have h1 := HA.out; rw [hab.1, List.length_append] at h1; have := hab.2.2.1; omega)
          have HQ3 : Hid (e + B2.length = b) := Lib.hid (by have h1 := HB.out; rw [hab.2.1, List.length_append] at h1; have := hab.2.2.2.1; omega)
          have SR : Aside (SWK enc k w0 blk off ((X ++ A1) ++ (A2 ++ (B1 ++ (B2 ++ Z)))).toArray wr) := by
            have := S1.out
            rw [HDK.out, hab.1, hab.2.1] at this
            simp only [List.append_assoc] at this ⊢
            exact this
          have hsr2 : ¬ (s : Int) < (r : Int) := by omega
          clear hab he2 HI hkx
          by_cases hA1 : a < s
          · by_cases hA2 : s < m
            · by_cases hB1 : s < mid
              · by_cases hB2 : e < b
                · have HRA : Hid (s + A2.length = m) := Lib.hid (by have := HQ1.out; omega)
                  have HR5a : 0 < A2.length := by have := HQ1.out; omega
                  have HR1 : Hid (((X ++ A1) ++ (A2 ++ (B1 ++ (B2 ++ Z)))).length = len) := Lib.hid (by have := HLL.out; rw [HAB.out.1, HAB.out.2.1] at this; simp only [List.length_append] at this ⊢; omega)
                  have HR2 : Hid ((X ++ A1).length = s) := Lib.hid (by rw [List.length_append, HX.out]; exact HAB.out.2.2.1)
                  have HR3 : Hid (s + A2.length = m) := HRA
                  have HR4 : Hid (m + B1.length = e) := Lib.hid (by have := HAB.out.2.2.2.1; omega)
                  have HR5 : Hid (0 < A2.length) := Lib.hid HR5a
                  have HR6 : Hid (0 < B1.length) := Lib.hid (by have := HAB.out.2.2.2.1; omega)
                  have HI7 : Hid (Srt key A1) := Lib.hid (by have := HSA.out; rw [HAB.out.1] at this; exact this.left)
                  have HI8 : Hid (Srt key B1) := Lib.hid (by have := HSB.out; rw [HAB.out.2.1] at this; exact this.left)
                  have HJ7 : Hid (Srt key A2) := Lib.hid (by have := HSA.out; rw [HAB.out.1] at this; exact this.right)
                  have HJ8 : Hid (Srt key B2) := Lib.hid (by have := HSB.out; rw [HAB.out.2.1] at this; exact this.right)
                  have HQ2 : Hid (X.length + (A1 ++ B1).length = mid) := Lib.hid (by have h1 := HAB.out.2.2.1; have h2 := HAB.out.2.2.2.1; have h3 := HX.out; rw [List.length_append]; omega)
                  have HI1 : Hid (A1.length + B1.length ≤ N) := Lib.hid (by have h1 := HN.out; rw [HAB.out.1, HAB.out.2.1] at h1; simp only [List.length_append] at h1; have h2 := HAB.out.2.2.1; have h3 := HAB.out.2.2.2.1; have h4 := HA.out; have h5 := HB.out; rw [HAB.out.1, List.length_append] at h4; rw [HAB.out.2.1, List.length_append] at h5; omega)
                  have HI2 : Hid ((X ++ (A1 ++ (B1 ++ ((A2 ++ B2) ++ Z)))).length = len) := Lib.hid (by have := HLL.out; rw [HAB.out.1, HAB.out.2.1] at this; simp only [List.length_append] at this ⊢; omega)
                  have HI3 : Hid (a + A1.length = s) := Lib.hid HAB.out.2.2.1
                  have HI4 : Hid (s + B1.length = mid) := Lib.hid (by have := HAB.out.2.2.2.1; omega)
                  have HI5 : Hid (0 < A1.length) := Lib.hid (by have := HAB.out.2.2.1; omega)
                  have HI6 : Hid (0 < B1.length) := Lib.hid (by have := HAB.out.2.2.2.1; omega)
                  have HJ1 : Hid (A2.length + B2.length ≤ N) := Lib.hid (by have h1 := HN.out; have h2 := HQ1.out; have h3 := HQ3.out; have h4 := HA.out; have h5 := HB.out; omega)
                  have HJ2 : Hid (mid + (A2 ++ (B2 ++ Z)).length = len) := Lib.hid (by have := HLL.out; have h2 := HQ2.out; rw [HAB.out.1, HAB.out.2.1] at this; simp only [List.length_append] at this h2 ⊢; omega)
                  have HJ3 : Hid (mid + A2.length = e) := Lib.hid (by have := HQ1.out; omega)
                  have HJ4 : Hid (e + B2.length = b) := Lib.hid (by have := HQ3.out; omega)
                  have HJ5 : Hid (0 < A2.length) := Lib.hid HR5a
                  have HJ6 : Hid (0 < B2.length) := Lib.hid (by have := HQ3.out; omega)
                  have q1 : (s : Int) < (m : Int) := by omega
                  have q2 : (m : Int) < (n : Int) - (s : Int) := by omega
                  have q3 : (m : Int) < (e : Int) := by omega
                  have q4 : (a : Int) < (s : Int) := by omega
                  have q5 : (s : Int) < (mid : Int) := by omega
                  have q6 : (mid : Int) < (n : Int) - (s : Int) := by omega
                  have q7 : (mid : Int) < (e : Int) := by omega
                  have q8 : (n : Int) - (s : Int) < (b : Int) := by omega
                  have q9 : (e : Int) < (b : Int) := by omega
                  clear hA1 hA2 hB1 hB2 he hn
                  clear S1
                  go_wp2_with fail
                  rw [HE2.out]
                  go_at_fn 150
                  refine (rotate_any k HF.out enc g cb blk off len cap s m e d0 w0 _ (X ++ A1) A2 B1 (B2 ++ Z) R HS.out SR.out HR1.out HR2.out HR3.out HR4.out HR5.out HR6.out hsz).mono ?_
                  rintro e1 w1 ⟨rfl, S2⟩
                  have S3 : Aside (SWK enc k w0 blk off (X ++ (A1 ++ (B1 ++ ((A2 ++ B2) ++ Z)))).toArray w1) := by
                    have := S2
                    simp only [List.append_assoc] at this ⊢
                    exact this
                  clear S2 SR
                  go_wp2_with fail
                  go_at_fn 149
                  refine (IH.out a s mid X A1 B1 ((A2 ++ B2) ++ Z) _ HI1.out S3.out HI2.out HX.out HI3.out HI4.out HI5.out HI6.out HI7.out HI8.out).mono ?_
                  rintro e2 w2 ⟨rfl, M1, hM1, S4⟩
                  have HM1 := Lib.hid hM1
                  have S5 : Aside (SWK enc k w0 blk off ((X ++ M1) ++ (A2 ++ (B2 ++ Z))).toArray w2) := by
                    have := S4
                    simp only [List.append_assoc] at this ⊢
                    exact this
                  clear S3 S4 hM1
                  go_wp2_with fail
                  (try rw [HE2.out])
                  have hlm : (X ++ M1).length = mid := by rw [List.length_append, HM1.out.fil.length]; exact HQ2.out
                  go_at_fn 149
                  refine (IH.out mid e b (X ++ M1) A2 B2 Z _ HJ1.out S5.out (by rw [List.length_append, hlm]; exact HJ2.out) hlm HJ3.out HJ4.out HJ5.out HJ6.out HJ7.out HJ8.out).mono ?_
                  clear hlm
                  rintro e3 w3 ⟨rfl, M2, hM2, S6⟩
                  have HM2 := Lib.hid hM2
                  clear S5 hM2
                  go_wp2_with fail
                  go_end0
                  refine ⟨rfl, M1 ++ M2, ?_, ?_⟩
                  · rw [HAB.out.1, HAB.out.2.1]
                    exact merge_parts (by have := HSA.out; rw [HAB.out.1] at this; exact this) (by have := HSB.out; rw [HAB.out.2.1] at this; exact this) HAB.out.2.2.2.2.1 HAB.out.2.2.2.2.2 HM1.out HM2.out
                  · have h := S6
                    simp only [List.append_assoc] at h ⊢
                    exact h
                · have HNB2 : Hid (B2 = []) := Lib.hid (List.eq_nil_of_length_eq_zero (by have := HQ3.out; omega))
                  have HRA : Hid (s + A2.length = m) := Lib.hid (by have := HQ1.out; omega)
                  have HR5a : 0 < A2.length := by have := HQ1.out; omega
                  have HR1 : Hid (((X ++ A1) ++ (A2 ++ (B1 ++ (B2 ++ Z)))).length = len) := Lib.hid (by have := HLL.out; rw [HAB.out.1, HAB.out.2.1] at this; simp only [List.length_append] at this ⊢; omega)
                  have HR2 : Hid ((X ++ A1).length = s) := Lib.hid (by rw [List.length_append, HX.out]; exact HAB.out.2.2.1)
                  have HR3 : Hid (s + A2.length = m) := HRA
                  have HR4 : Hid (m + B1.length = e) := Lib.hid (by have := HAB.out.2.2.2.1; omega)
                  have HR5 : Hid (0 < A2.length) := Lib.hid HR5a
                  have HR6 : Hid (0 < B1.length) := Lib.hid (by have := HAB.out.2.2.2.1; omega)
                  have HI7 : Hid (Srt key A1) := Lib.hid (by have := HSA.out; rw [HAB.out.1] at this; exact this.left)
                  have HI8 : Hid (Srt key B1) := Lib.hid (by have := HSB.out; rw [HAB.out.2.1] at this; exact this.left)
                  have HJ7 : Hid (Srt key A2) := Lib.hid (by have := HSA.out; rw [HAB.out.1] at this; exact this.right)
                  have HJ8 : Hid (Srt key B2) := Lib.hid (by have := HSB.out; rw [HAB.out.2.1] at this; exact this.right)
                  have HQ2 : Hid (X.length + (A1 ++ B1).length = mid) := Lib.hid (by have h1 := HAB.out.2.2.1; have h2 := HAB.out.2.2.2.1; have h3 := HX.out; rw [List.length_append]; omega)
                  have HI1 : Hid (A1.length + B1.length ≤ N) := Lib.hid (by have h1 := HN.out; rw [HAB.out.1, HAB.out.2.1] at h1; simp only [List.length_append] at h1; have h2 := HAB.out.2.2.1; have h3 := HAB.out.2.2.2.1; have h4 := HA.out; have h5 := HB.out; rw [HAB.out.1, List.length_append] at h4; rw [HAB.out.2.1, List.length_append] at h5; omega)
                  have HI2 : Hid ((X ++ (A1 ++ (B1 ++ ((A2 ++ B2) ++ Z)))).length = len) := Lib.hid (by have := HLL.out; rw [HAB.out.1, HAB.out.2.1] at this; simp only [List.length_append] at this ⊢; omega)
                  have HI3 : Hid (a + A1.length = s) := Lib.hid HAB.out.2.2.1
                  have HI4 : Hid (s + B1.length = mid) := Lib.hid (by have := HAB.out.2.2.2.1; omega)
                  have HI5 : Hid (0 < A1.length) := Lib.hid (by have := HAB.out.2.2.1; omega)
                  have HI6 : Hid (0 < B1.length) := Lib.hid (by have := HAB.out.2.2.2.1; omega)
                  have q1 : (s : Int) < (m : Int) := by omega
                  have q2 : (m : Int) < (n : Int) - (s : Int) := by omega
                  have q3 : (m : Int) < (e : Int) := by omega
                  have q4 : (a : Int) < (s : Int) := by omega
                  have q5 : (s : Int) < (mid : Int) := by omega
                  have q6 : (mid : Int) < (n : Int) - (s : Int) := by omega
                  have q7 : (mid : Int) < (e : Int) := by omega
                  have q8 : ¬ ((n : Int) - (s : Int) < (b : Int)) := by omega
                  have q9 : ¬ ((e : Int) < (b : Int)) := by omega
                  clear hA1 hA2 hB1 hB2 he hn
                  clear S1
                  go_wp2_with fail
                  rw [HE2.out]
                  go_at_fn 150
                  refine (rotate_any k HF.out enc g cb blk off len cap s m e d0 w0 _ (X ++ A1) A2 B1 (B2 ++ Z) R HS.out SR.out HR1.out HR2.out HR3.out HR4.out HR5.out HR6.out hsz).mono ?_
                  rintro e1 w1 ⟨rfl, S2⟩
                  have S3 : Aside (SWK enc k w0 blk off (X ++ (A1 ++ (B1 ++ ((A2 ++ B2) ++ Z)))).toArray w1) := by
                    have := S2
                    simp only [List.append_assoc] at this ⊢
                    exact this
                  clear S2 SR
                  go_wp2_with fail
                  go_at_fn 149
                  refine (IH.out a s mid X A1 B1 ((A2 ++ B2) ++ Z) _ HI1.out S3.out HI2.out HX.out HI3.out HI4.out HI5.out HI6.out HI7.out HI8.out).mono ?_
                  rintro e2 w2 ⟨rfl, M1, hM1, S4⟩
                  have HM1 := Lib.hid hM1
                  have S5 : Aside (SWK enc k w0 blk off ((X ++ M1) ++ (A2 ++ (B2 ++ Z))).toArray w2) := by
                    have := S4
                    simp only [List.append_assoc] at this ⊢
                    exact this
                  clear S3 S4 hM1
                  go_wp2_with fail
                  have HM2 : Hid (IsSrt key (A2 ++ B2) (A2 ++ B2)) := Lib.hid (IsSrt.same (by rw [HNB2.out]; simpa using HJ7.out))
                  have S6 : Aside (SWK enc k w0 blk off ((X ++ M1) ++ ((A2 ++ B2) ++ Z)).toArray w2) := by
                    have := S5.out
                    rw [List.append_assoc A2 B2 Z]
                    exact this
                  clear S5
                  go_end0
                  refine ⟨rfl, M1 ++ (A2 ++ B2), ?_, ?_⟩
                  · rw [HAB.out.1, HAB.out.2.1]
                    exact merge_parts (by have := HSA.out; rw [HAB.out.1] at this; exact this) (by have := HSB.out; rw [HAB.out.2.1] at this; exact this) HAB.out.2.2.2.2.1 HAB.out.2.2.2.2.2 HM1.out HM2.out
                  · have h := S6.out
                    simp only [List.append_assoc] at h ⊢
                    exact h
              · by_cases hB2 : e < b
                · have HNB1 : Hid (B1 = []) := Lib.hid (List.eq_nil_of_length_eq_zero (by have := HAB.out.2.2.2.1; omega))
                  have HRA : Hid (s + A2.length = m) := Lib.hid (by have := HQ1.out; omega)
                  have HR5a : 0 < A2.length := by have := HQ1.out; omega
                  have HI7 : Hid (Srt key A1) := Lib.hid (by have := HSA.out; rw [HAB.out.1] at this; exact this.left)
                  have HI8 : Hid (Srt key B1) := Lib.hid (by have := HSB.out; rw [HAB.out.2.1] at this; exact this.left)
                  have HJ7 : Hid (Srt key A2) := Lib.hid (by have := HSA.out; rw [HAB.out.1] at this; exact this.right)
                  have HJ8 : Hid (Srt key B2) := Lib.hid (by have := HSB.out; rw [HAB.out.2.1] at this; exact this.right)
                  have HQ2 : Hid (X.length + (A1 ++ B1).length = mid) := Lib.hid (by have h1 := HAB.out.2.2.1; have h2 := HAB.out.2.2.2.1; have h3 := HX.out; rw [List.length_append]; omega)
                  have HJ1 : Hid (A2.length + B2.length ≤ N) := Lib.hid (by have h1 := HN.out; have h2 := HQ1.out; have h3 := HQ3.out; have h4 := HA.out; have h5 := HB.out; omega)
                  have HJ2 : Hid (mid + (A2 ++ (B2 ++ Z)).length = len) := Lib.hid (by have := HLL.out; have h2 := HQ2.out; rw [HAB.out.1, HAB.out.2.1] at this; simp only [List.length_append] at this h2 ⊢; omega)
                  have HJ3 : Hid (mid + A2.length = e) := Lib.hid (by have := HQ1.out; omega)
                  have HJ4 : Hid (e + B2.length = b) := Lib.hid (by have := HQ3.out; omega)
                  have HJ5 : Hid (0 < A2.length) := Lib.hid HR5a
                  have HJ6 : Hid (0 < B2.length) := Lib.hid (by have := HQ3.out; omega)
                  have q1 : (s : Int) < (m : Int) := by omega
                  have q2 : ¬ ((m : Int) < (n : Int) - (s : Int)) := by omega
                  have q3 : ¬ ((m : Int) < (e : Int)) := by omega
                  have q4 : (a : Int) < (s : Int) := by omega
                  have q5 : ¬ ((s : Int) < (mid : Int)) := by omega
                  have q6 : (mid : Int) < (n : Int) - (s : Int) := by omega
                  have q7 : (mid : Int) < (e : Int) := by omega
                  have q8 : (n : Int) - (s : Int) < (b : Int) := by omega
                  have q9 : (e : Int) < (b : Int) := by omega
                  clear hA1 hA2 hB1 hB2 he hn
                  clear S1
                  go_wp2_with fail
                  have S3 : Aside (SWK enc k w0 blk off (X ++ (A1 ++ (B1 ++ ((A2 ++ B2) ++ Z)))).toArray wr) := by
                    have := SR.out
                    rw [HNB1.out] at this ⊢
                    simp only [List.append_assoc, List.nil_append, List.append_nil] at this ⊢
                    exact this
                  clear SR
                  have HM1 : Hid (IsSrt key (A1 ++ B1) (A1 ++ B1)) := Lib.hid (IsSrt.same (by rw [HNB1.out]; simpa using HI7.out))
                  have S5 : Aside (SWK enc k w0 blk off ((X ++ (A1 ++ B1)) ++ (A2 ++ (B2 ++ Z))).toArray wr) := by
                    have := S3.out
                    simp only [List.append_assoc] at this ⊢
                    exact this
                  clear S3
                  (try rw [HE2.out])
                  have hlm : (X ++ (A1 ++ B1)).length = mid := by rw [List.length_append, HM1.out.fil.length]; exact HQ2.out
                  go_at_fn 149
                  refine (IH.out mid e b (X ++ (A1 ++ B1)) A2 B2 Z _ HJ1.out S5.out (by rw [List.length_append, hlm]; exact HJ2.out) hlm HJ3.out HJ4.out HJ5.out HJ6.out HJ7.out HJ8.out).mono ?_
                  clear hlm
                  rintro e3 w3 ⟨rfl, M2, hM2, S6⟩
                  have HM2 := Lib.hid hM2
                  clear S5 hM2
                  go_wp2_with fail
                  go_end0
                  refine ⟨rfl, (A1 ++ B1) ++ M2, ?_, ?_⟩
                  · rw [HAB.out.1, HAB.out.2.1]
                    exact merge_parts (by have := HSA.out; rw [HAB.out.1] at this; exact this) (by have := HSB.out; rw [HAB.out.2.1] at this; exact this) HAB.out.2.2.2.2.1 HAB.out.2.2.2.2.2 HM1.out HM2.out
                  · have h := S6
                    simp only [List.append_assoc] at h ⊢
                    exact h
                · have HNB1 : Hid (B1 = []) := Lib.hid (List.eq_nil_of_length_eq_zero (by have := HAB.out.2.2.2.1; omega))
                  have HNB2 : Hid (B2 = []) := Lib.hid (List.eq_nil_of_length_eq_zero (by have := HQ3.out; omega))
                  have HRA : Hid (s + A2.length = m) := Lib.hid (by have := HQ1.out; omega)
                  have HR5a : 0 < A2.length := by have := HQ1.out; omega
                  have HI7 : Hid (Srt key A1) := Lib.hid (by have := HSA.out; rw [HAB.out.1] at this; exact this.left)
                  have HI8 : Hid (Srt key B1) := Lib.hid (by have := HSB.out; rw [HAB.out.2.1] at this; exact this.left)
                  have HJ7 : Hid (Srt key A2) := Lib.hid (by have := HSA.out; rw [HAB.out.1] at this; exact this.right)
                  have HJ8 : Hid (Srt key B2) := Lib.hid (by have := HSB.out; rw [HAB.out.2.1] at this; exact this.right)
                  have HQ2 : Hid (X.length + (A1 ++ B1).length = mid) := Lib.hid (by have h1 := HAB.out.2.2.1; have h2 := HAB.out.2.2.2.1; have h3 := HX.out; rw [List.length_append]; omega)
                  have q1 : (s : Int) < (m : Int) := by omega
                  have q2 : ¬ ((m : Int) < (n : Int) - (s : Int)) := by omega
                  have q3 : ¬ ((m : Int) < (e : Int)) := by omega
                  have q4 : (a : Int) < (s : Int) := by omega
                  have q5 : ¬ ((s : Int) < (mid : Int)) := by omega
                  have q6 : (mid : Int) < (n : Int) - (s : Int) := by omega
                  have q7 : (mid : Int) < (e : Int) := by omega
                  have q8 : ¬ ((n : Int) - (s : Int) < (b : Int)) := by omega
                  have q9 : ¬ ((e : Int) < (b : Int)) := by omega
                  clear hA1 hA2 hB1 hB2 he hn
                  clear S1
                  go_wp2_with fail
                  have S3 : Aside (SWK enc k w0 blk off (X ++ (A1 ++ (B1 ++ ((A2 ++ B2) ++ Z)))).toArray wr) := by
                    have := SR.out
                    rw [HNB1.out] at this ⊢
                    simp only [List.append_assoc, List.nil_append, List.append_nil] at this ⊢
                    exact this
                  clear SR
                  have HM1 : Hid (IsSrt key (A1 ++ B1) (A1 ++ B1)) := Lib.hid (IsSrt.same (by rw [HNB1.out]; simpa using HI7.out))
                  have S5 : Aside (SWK enc k w0 blk off ((X ++ (A1 ++ B1)) ++ (A2 ++ (B2 ++ Z))).toArray wr) := by
                    have := S3.out
                    simp only [List.append_assoc] at this ⊢
                    exact this
                  clear S3
                  have HM2 : Hid (IsSrt key (A2 ++ B2) (A2 ++ B2)) := Lib.hid (IsSrt.same (by rw [HNB2.out]; simpa using HJ7.out))
                  have S6 : Aside (SWK enc k w0 blk off ((X ++ (A1 ++ B1)) ++ ((A2 ++ B2) ++ Z)).toArray wr) := by
                    have := S5.out
                    rw [List.append_assoc A2 B2 Z]
                    exact this
                  clear S5
                  go_end0
                  refine ⟨rfl, (A1 ++ B1) ++ (A2 ++ B2), ?_, ?_⟩
                  · rw [HAB.out.1, HAB.out.2.1]
                    exact merge_parts (by have := HSA.out; rw [HAB.out.1] at this; exact this) (by have := HSB.out; rw [HAB.out.2.1] at this; exact this) HAB.out.2.2.2.2.1 HAB.out.2.2.2.2.2 HM1.out HM2.out
                  · have h := S6.out
                    simp only [List.append_assoc] at h ⊢
                    exact h
            · by_cases hB1 : s < mid
              · by_cases hB2 : e < b
                · exfalso
                  omega
                · exfalso
                  omega
              · by_cases hB2 : e < b
                · exfalso
                  omega
                · exfalso
                  omega
          · by_cases hA2 : s < m
            · by_cases hB1 : s < mid
              · by_cases hB2 : e < b
                · have HNA1 : Hid (A1 = []) := Lib.hid (List.eq_nil_of_length_eq_zero (by have := HAB.out.2.2.1; omega))
                  have HRA : Hid (s + A2.length = m) := Lib.hid (by have := HQ1.out; omega)
                  have HR5a : 0 < A2.length := by have := HQ1.out; omega
                  have HR1 : Hid (((X ++ A1) ++ (A2 ++ (B1 ++ (B2 ++ Z)))).length = len) := Lib.hid (by have := HLL.out; rw [HAB.out.1, HAB.out.2.1] at this; simp only [List.length_append] at this ⊢; omega)
                  have HR2 : Hid ((X ++ A1).length = s) := Lib.hid (by rw [List.length_append, HX.out]; exact HAB.out.2.2.1)
                  have HR3 : Hid (s + A2.length = m) := HRA
                  have HR4 : Hid (m + B1.length = e) := Lib.hid (by have := HAB.out.2.2.2.1; omega)
                  have HR5 : Hid (0 < A2.length) := Lib.hid HR5a
                  have HR6 : Hid (0 < B1.length) := Lib.hid (by have := HAB.out.2.2.2.1; omega)
                  have HI7 : Hid (Srt key A1) := Lib.hid (by have := HSA.out; rw [HAB.out.1] at this; exact this.left)
                  have HI8 : Hid (Srt key B1) := Lib.hid (by have := HSB.out; rw [HAB.out.2.1] at this; exact this.left)
                  have HJ7 : Hid (Srt key A2) := Lib.hid (by have := HSA.out; rw [HAB.out.1] at this; exact this.right)
                  have HJ8 : Hid (Srt key B2) := Lib.hid (by have := HSB.out; rw [HAB.out.2.1] at this; exact this.right)
                  have HQ2 : Hid (X.length + (A1 ++ B1).length = mid) := Lib.hid (by have h1 := HAB.out.2.2.1; have h2 := HAB.out.2.2.2.1; have h3 := HX.out; rw [List.length_append]; omega)
                  have HJ1 : Hid (A2.length + B2.length ≤ N) := Lib.hid (by have h1 := HN.out; have h2 := HQ1.out; have h3 := HQ3.out; have h4 := HA.out; have h5 := HB.out; omega)
                  have HJ2 : Hid (mid + (A2 ++ (B2 ++ Z)).length = len) := Lib.hid (by have := HLL.out; have h2 := HQ2.out; rw [HAB.out.1, HAB.out.2.1] at this; simp only [List.length_append] at this h2 ⊢; omega)
                  have HJ3 : Hid (mid + A2.length = e) := Lib.hid (by have := HQ1.out; omega)
                  have HJ4 : Hid (e + B2.length = b) := Lib.hid (by have := HQ3.out; omega)
                  have HJ5 : Hid (0 < A2.length) := Lib.hid HR5a
                  have HJ6 : Hid (0 < B2.length) := Lib.hid (by have := HQ3.out; omega)
                  have q1 : (s : Int) < (m : Int) := by omega
                  have q2 : (m : Int) < (n : Int) - (s : Int) := by omega
                  have q3 : (m : Int) < (e : Int) := by omega
                  have q4 : ¬ ((a : Int) < (s : Int)) := by omega
                  have q5 : (s : Int) < (mid : Int) := by omega
                  have q6 : (mid : Int) < (n : Int) - (s : Int) := by omega
                  have q7 : (mid : Int) < (e : Int) := by omega
                  have q8 : (n : Int) - (s : Int) < (b : Int) := by omega
                  have q9 : (e : Int) < (b : Int) := by omega
                  clear hA1 hA2 hB1 hB2 he hn
                  clear S1
                  go_wp2_with fail
                  rw [HE2.out]
                  go_at_fn 150
                  refine (rotate_any k HF.out enc g cb blk off len cap s m e d0 w0 _ (X ++ A1) A2 B1 (B2 ++ Z) R HS.out SR.out HR1.out HR2.out HR3.out HR4.out HR5.out HR6.out hsz).mono ?_
                  rintro e1 w1 ⟨rfl, S2⟩
                  have S3 : Aside (SWK enc k w0 blk off (X ++ (A1 ++ (B1 ++ ((A2 ++ B2) ++ Z)))).toArray w1) := by
                    have := S2
                    simp only [List.append_assoc] at this ⊢
                    exact this
                  clear S2 SR
                  go_wp2_with fail
                  have HM1 : Hid (IsSrt key (A1 ++ B1) (A1 ++ B1)) := Lib.hid (IsSrt.same (by rw [HNA1.out]; simpa using HI8.out))
                  have S5 : Aside (SWK enc k w0 blk off ((X ++ (A1 ++ B1)) ++ (A2 ++ (B2 ++ Z))).toArray w1) := by
                    have := S3.out
                    simp only [List.append_assoc] at this ⊢
                    exact this
                  clear S3
                  (try rw [HE2.out])
                  have hlm : (X ++ (A1 ++ B1)).length = mid := by rw [List.length_append, HM1.out.fil.length]; exact HQ2.out
                  go_at_fn 149
                  refine (IH.out mid e b (X ++ (A1 ++ B1)) A2 B2 Z _ HJ1.out S5.out (by rw [List.length_append, hlm]; exact HJ2.out) hlm HJ3.out HJ4.out HJ5.out HJ6.out HJ7.out HJ8.out).mono ?_
                  clear hlm
                  rintro e3 w3 ⟨rfl, M2, hM2, S6⟩
                  have HM2 := Lib.hid hM2
                  clear S5 hM2
                  go_wp2_with fail
                  go_end0
                  refine ⟨rfl, (A1 ++ B1) ++ M2, ?_, ?_⟩
                  · rw [HAB.out.1, HAB.out.2.1]
                    exact merge_parts (by have := HSA.out; rw [HAB.out.1] at this; exact this) (by have := HSB.out; rw [HAB.out.2.1] at this; exact this) HAB.out.2.2.2.2.1 HAB.out.2.2.2.2.2 HM1.out HM2.out
                  · have h := S6
                    simp only [List.append_assoc] at h ⊢
                    exact h
                · have HNA1 : Hid (A1 = []) := Lib.hid (List.eq_nil_of_length_eq_zero (by have := HAB.out.2.2.1; omega))
                  have HNB2 : Hid (B2 = []) := Lib.hid (List.eq_nil_of_length_eq_zero (by have := HQ3.out; omega))
                  have HRA : Hid (s + A2.length = m) := Lib.hid (by have := HQ1.out; omega)
                  have HR5a : 0 < A2.length := by have := HQ1.out; omega
                  have HR1 : Hid (((X ++ A1) ++ (A2 ++ (B1 ++ (B2 ++ Z)))).length = len) := Lib.hid (by have := HLL.out; rw [HAB.out.1, HAB.out.2.1] at this; simp only [List.length_append] at this ⊢; omega)
                  have HR2 : Hid ((X ++ A1).length = s) := Lib.hid (by rw [List.length_append, HX.out]; exact HAB.out.2.2.1)
                  have HR3 : Hid (s + A2.length = m) := HRA
                  have HR4 : Hid (m + B1.length = e) := Lib.hid (by have := HAB.out.2.2.2.1; omega)
                  have HR5 : Hid (0 < A2.length) := Lib.hid HR5a
                  have HR6 : Hid (0 < B1.length) := Lib.hid (by have := HAB.out.2.2.2.1; omega)
                  have HI7 : Hid (Srt key A1) := Lib.hid (by have := HSA.out; rw [HAB.out.1] at this; exact this.left)
                  have HI8 : Hid (Srt key B1) := Lib.hid (by have := HSB.out; rw [HAB.out.2.1] at this; exact this.left)
                  have HJ7 : Hid (Srt key A2) := Lib.hid (by have := HSA.out; rw [HAB.out.1] at this; exact this.right)
                  have HJ8 : Hid (Srt key B2) := Lib.hid (by have := HSB.out; rw [HAB.out.2.1] at this; exact this.right)
                  have HQ2 : Hid (X.length + (A1 ++ B1).length = mid) := Lib.hid (by have h1 := HAB.out.2.2.1; have h2 := HAB.out.2.2.2.1; have h3 := HX.out; rw [List.length_append]; omega)
                  have q1 : (s : Int) < (m : Int) := by omega
                  have q2 : (m : Int) < (n : Int) - (s : Int) := by omega
                  have q3 : (m : Int) < (e : Int) := by omega
                  have q4 : ¬ ((a : Int) < (s : Int)) := by omega
                  have q5 : (s : Int) < (mid : Int) := by omega
                  have q6 : (mid : Int) < (n : Int) - (s : Int) := by omega
                  have q7 : (mid : Int) < (e : Int) := by omega
                  have q8 : ¬ ((n : Int) - (s : Int) < (b : Int)) := by omega
                  have q9 : ¬ ((e : Int) < (b : Int)) := by omega
                  clear hA1 hA2 hB1 hB2 he hn
                  clear S1
                  go_wp2_with fail
                  rw [HE2.out]
                  go_at_fn 150
                  refine (rotate_any k HF.out enc g cb blk off len cap s m e d0 w0 _ (X ++ A1) A2 B1 (B2 ++ Z) R HS.out SR.out HR1.out HR2.out HR3.out HR4.out HR5.out HR6.out hsz).mono ?_
                  rintro e1 w1 ⟨rfl, S2⟩
                  have S3 : Aside (SWK enc k w0 blk off (X ++ (A1 ++ (B1 ++ ((A2 ++ B2) ++ Z)))).toArray w1) := by
                    have := S2
                    simp only [List.append_assoc] at this ⊢
                    exact this
                  clear S2 SR
                  go_wp2_with fail
                  have HM1 : Hid (IsSrt key (A1 ++ B1) (A1 ++ B1)) := Lib.hid (IsSrt.same (by rw [HNA1.out]; simpa using HI8.out))
                  have S5 : Aside (SWK enc k w0 blk off ((X ++ (A1 ++ B1)) ++ (A2 ++ (B2 ++ Z))).toArray w1) := by
                    have := S3.out
                    simp only [List.append_assoc] at this ⊢
                    exact this
                  clear S3
                  have HM2 : Hid (IsSrt key (A2 ++ B2) (A2 ++ B2)) := Lib.hid (IsSrt.same (by rw [HNB2.out]; simpa using HJ7.out))
                  have S6 : Aside (SWK enc k w0 blk off ((X ++ (A1 ++ B1)) ++ ((A2 ++ B2) ++ Z)).toArray w1) := by
                    have := S5.out
                    rw [List.append_assoc A2 B2 Z]
                    exact this
                  clear S5
                  go_end0
                  refine ⟨rfl, (A1 ++ B1) ++ (A2 ++ B2), ?_, ?_⟩
                  · rw [HAB.out.1, HAB.out.2.1]
                    exact merge_parts (by have := HSA.out; rw [HAB.out.1] at this; exact this) (by have := HSB.out; rw [HAB.out.2.1] at this; exact this) HAB.out.2.2.2.2.1 HAB.out.2.2.2.2.2 HM1.out HM2.out
                  · have h := S6.out
                    simp only [List.append_assoc] at h ⊢
                    exact h
              · by_cases hB2 : e < b
                · have HNA1 : Hid (A1 = []) := Lib.hid (List.eq_nil_of_length_eq_zero (by have := HAB.out.2.2.1; omega))
                  have HNB1 : Hid (B1 = []) := Lib.hid (List.eq_nil_of_length_eq_zero (by have := HAB.out.2.2.2.1; omega))
                  have HRA : Hid (s + A2.length = m) := Lib.hid (by have := HQ1.out; omega)
                  have HR5a : 0 < A2.length := by have := HQ1.out; omega
                  have HI7 : Hid (Srt key A1) := Lib.hid (by have := HSA.out; rw [HAB.out.1] at this; exact this.left)
                  have HI8 : Hid (Srt key B1) := Lib.hid (by have := HSB.out; rw [HAB.out.2.1] at this; exact this.left)
                  have HJ7 : Hid (Srt key A2) := Lib.hid (by have := HSA.out; rw [HAB.out.1] at this; exact this.right)
                  have HJ8 : Hid (Srt key B2) := Lib.hid (by have := HSB.out; rw [HAB.out.2.1] at this; exact this.right)
                  have HQ2 : Hid (X.length + (A1 ++ B1).length = mid) := Lib.hid (by have h1 := HAB.out.2.2.1; have h2 := HAB.out.2.2.2.1; have h3 := HX.out; rw [List.length_append]; omega)
                  have HJ1 : Hid (A2.length + B2.length ≤ N) := Lib.hid (by have h1 := HN.out; have h2 := HQ1.out; have h3 := HQ3.out; have h4 := HA.out; have h5 := HB.out; omega)
                  have HJ2 : Hid (mid + (A2 ++ (B2 ++ Z)).length = len) := Lib.hid (by have := HLL.out; have h2 := HQ2.out; rw [HAB.out.1, HAB.out.2.1] at this; simp only [List.length_append] at this h2 ⊢; omega)
                  have HJ3 : Hid (mid + A2.length = e) := Lib.hid (by have := HQ1.out; omega)
                  have HJ4 : Hid (e + B2.length = b) := Lib.hid (by have := HQ3.out; omega)
                  have HJ5 : Hid (0 < A2.length) := Lib.hid HR5a
                  have HJ6 : Hid (0 < B2.length) := Lib.hid (by have := HQ3.out; omega)
                  have q1 : (s : Int) < (m : Int) := by omega
                  have q2 : ¬ ((m : Int) < (n : Int) - (s : Int)) := by omega
                  have q3 : ¬ ((m : Int) < (e : Int)) := by omega
                  have q4 : ¬ ((a : Int) < (s : Int)) := by omega
                  have q5 : ¬ ((s : Int) < (mid : Int)) := by omega
                  have q6 : (mid : Int) < (n : Int) - (s : Int) := by omega
                  have q7 : (mid : Int) < (e : Int) := by omega
                  have q8 : (n : Int) - (s : Int) < (b : Int) := by omega
                  have q9 : (e : Int) < (b : Int) := by omega
                  clear hA1 hA2 hB1 hB2 he hn
                  clear S1
                  go_wp2_with fail
                  have S3 : Aside (SWK enc k w0 blk off (X ++ (A1 ++ (B1 ++ ((A2 ++ B2) ++ Z)))).toArray wr) := by
                    have := SR.out
                    rw [HNB1.out] at this ⊢
                    simp only [List.append_assoc, List.nil_append, List.append_nil] at this ⊢
                    exact this
                  clear SR
                  have HM1 : Hid (IsSrt key (A1 ++ B1) (A1 ++ B1)) := Lib.hid (IsSrt.same (by rw [HNA1.out]; simpa using HI8.out))
                  have S5 : Aside (SWK enc k w0 blk off ((X ++ (A1 ++ B1)) ++ (A2 ++ (B2 ++ Z))).toArray wr) := by
                    have := S3.out
                    simp only [List.append_assoc] at this ⊢
                    exact this
                  clear S3
                  (try rw [HE2.out])
                  have hlm : (X ++ (A1 ++ B1)).length = mid := by rw [List.length_append, HM1.out.fil.length]; exact HQ2.out
                  go_at_fn 149
                  refine (IH.out mid e b (X ++ (A1 ++ B1)) A2 B2 Z _ HJ1.out S5.out (by rw [List.length_append, hlm]; exact HJ2.out) hlm HJ3.out HJ4.out HJ5.out HJ6.out HJ7.out HJ8.out).mono ?_
                  clear hlm
                  rintro e3 w3 ⟨rfl, M2, hM2, S6⟩
                  have HM2 := Lib.hid hM2
                  clear S5 hM2
                  go_wp2_with fail
                  go_end0
                  refine ⟨rfl, (A1 ++ B1) ++ M2, ?_, ?_⟩
                  · rw [HAB.out.1, HAB.out.2.1]
                    exact merge_parts (by have := HSA.out; rw [HAB.out.1] at this; exact this) (by have := HSB.out; rw [HAB.out.2.1] at this; exact this) HAB.out.2.2.2.2.1 HAB.out.2.2.2.2.2 HM1.out HM2.out
                  · have h := S6
                    simp only [List.append_assoc] at h ⊢
                    exact h
                · have HNA1 : Hid (A1 = []) := Lib.hid (List.eq_nil_of_length_eq_zero (by have := HAB.out.2.2.1; omega))
                  have HNB1 : Hid (B1 = []) := Lib.hid (List.eq_nil_of_length_eq_zero (by have := HAB.out.2.2.2.1; omega))
                  have HNB2 : Hid (B2 = []) := Lib.hid (List.eq_nil_of_length_eq_zero (by have := HQ3.out; omega))
                  have HRA : Hid (s + A2.length = m) := Lib.hid (by have := HQ1.out; omega)
                  have HR5a : 0 < A2.length := by have := HQ1.out; omega
                  have HI7 : Hid (Srt key A1) := Lib.hid (by have := HSA.out; rw [HAB.out.1] at this; exact this.left)
                  have HI8 : Hid (Srt key B1) := Lib.hid (by have := HSB.out; rw [HAB.out.2.1] at this; exact this.left)
                  have HJ7 : Hid (Srt key A2) := Lib.hid (by have := HSA.out; rw [HAB.out.1] at this; exact this.right)
                  have HJ8 : Hid (Srt key B2) := Lib.hid (by have := HSB.out; rw [HAB.out.2.1] at this; exact this.right)
                  have HQ2 : Hid (X.length + (A1 ++ B1).length = mid) := Lib.hid (by have h1 := HAB.out.2.2.1; have h2 := HAB.out.2.2.2.1; have h3 := HX.out; rw [List.length_append]; omega)
                  have q1 : (s : Int) < (m : Int) := by omega
                  have q2 : ¬ ((m : Int) < (n : Int) - (s : Int)) := by omega
                  have q3 : ¬ ((m : Int) < (e : Int)) := by omega
                  have q4 : ¬ ((a : Int) < (s : Int)) := by omega
                  have q5 : ¬ ((s : Int) < (mid : Int)) := by omega
                  have q6 : (mid : Int) < (n : Int) - (s : Int) := by omega
                  have q7 : (mid : Int) < (e : Int) := by omega
                  have q8 : ¬ ((n : Int) - (s : Int) < (b : Int)) := by omega
                  have q9 : ¬ ((e : Int) < (b : Int)) := by omega
                  clear hA1 hA2 hB1 hB2 he hn
                  clear S1
                  go_wp2_with fail
                  have S3 : Aside (SWK enc k w0 blk off (X ++ (A1 ++ (B1 ++ ((A2 ++ B2) ++ Z)))).toArray wr) := by
                    have := SR.out
                    rw [HNB1.out] at this ⊢
                    simp only [List.append_assoc, List.nil_append, List.append_nil] at this ⊢
                    exact this
                  clear SR
                  have HM1 : Hid (IsSrt key (A1 ++ B1) (A1 ++ B1)) := Lib.hid (IsSrt.same (by rw [HNA1.out]; simpa using HI8.out))
                  have S5 : Aside (SWK enc k w0 blk off ((X ++ (A1 ++ B1)) ++ (A2 ++ (B2 ++ Z))).toArray wr) := by
                    have := S3.out
                    simp only [List.append_assoc] at this ⊢
                    exact this
                  clear S3
                  have HM2 : Hid (IsSrt key (A2 ++ B2) (A2 ++ B2)) := Lib.hid (IsSrt.same (by rw [HNB2.out]; simpa using HJ7.out))
                  have S6 : Aside (SWK enc k w0 blk off ((X ++ (A1 ++ B1)) ++ ((A2 ++ B2) ++ Z)).toArray wr) := by
                    have := S5.out
                    rw [List.append_assoc A2 B2 Z]
                    exact this
                  clear S5
                  go_end0
                  refine ⟨rfl, (A1 ++ B1) ++ (A2 ++ B2), ?_, ?_⟩
                  · rw [HAB.out.1, HAB.out.2.1]
                    exact merge_parts (by have := HSA.out; rw [HAB.out.1] at this; exact this) (by have := HSB.out; rw [HAB.out.2.1] at this; exact this) HAB.out.2.2.2.2.1 HAB.out.2.2.2.2.2 HM1.out HM2.out
                  · have h := S6.out
                    simp only [List.append_assoc] at h ⊢
                    exact h
            · by_cases hB1 : s < mid
              · by_cases hB2 : e < b
                · exfalso
                  omega
                · exfalso
                  omega
              · by_cases hB2 : e < b
                · exfalso
                  omega
                · exfalso
                  omega
    · obtain ⟨lo, hlo⟩ : ∃ lo, lo = a := ⟨_, rfl⟩
      obtain ⟨hi, hhi⟩ : ∃ hi, m = hi := ⟨_, rfl⟩
      obtain ⟨n, hn⟩ : ∃ n, n = mid + m := ⟨_, rfl⟩
      obtain ⟨p, hp⟩ : ∃ p, p = mid + m - 1 := ⟨_, rfl⟩
      have HE : Hid (Ends a m b mid lo hi) := Lib.hid (by rw [hlo, ← hhi]; exact Ends.second HMID.out ham hmb hmm)
      have hq : ¬ ((a : Int) + (b : Int)) / 2 < (m : Int) := by rw [hz]; omega
      have r1 : (mid : Int) + (m : Int) - 1 = (p : Int) := by omega
      have r2 : (mid : Int) + (m : Int) = (n : Int) := by omega
      have HP1 := Lib.hid r1
      have HP2 := Lib.hid r2
      have HNN := Lib.hid hn
      have HPP := Lib.hid hp
      obtain rfl : m = hi := hhi
      obtain rfl : a = lo := hlo.symm
      clear r1 r2 hz hmid hn hp
      go_enter FG, Try.ntmps149
      go_wp2_with fail
      rw [HZ.out, HP1.out, HP2.out]
      go_loopg [20, 21] (m - a) (fun kx s20 s21 wr => ∃ s r : Nat, s20 = .int .i64 s ∧ s21 = .int .i64 r ∧ a ≤ s ∧ s ≤ r ∧ r ≤ m ∧ r - s ≤ kx ∧ Aside (SWK enc k w0 blk off dk wr) ∧
        Hid ((∀ c, a ≤ c → c + 1 = s → (key dk[mid + m - 1 - c]!).less (key dk[c]!) = false) ∧ (r < m → (key dk[mid + m - 1 - r]!).less (key dk[r]!) = true)))
      case atStart => exact ⟨a, m, rfl, rfl, Nat.le_refl _, HE.out.lh, Nat.le_refl _, Nat.le_refl _, S0, Lib.hid ⟨fun c h1 h2 => by omega, fun h => by omega⟩⟩
      case round =>
        clear S0
        obtain ⟨s, r, rfl, rfl, hls, hsr, hrh, hkx, S1, HI⟩ := hrel
        have E := HE.out
        have x1 := E.hm
        have x2 := E.hmid
        have x3 := E.la
        have x4 := E.lb
        clear E
        by_cases hlt : s < r
        · obtain ⟨c, hc0⟩ : ∃ c, c = (s + r) / 2 := ⟨_, rfl⟩
          have hz := half s r
          rw [← hc0] at hz
          have HZ2 := Lib.hid hz
          have hc1 : s ≤ c := by omega
          have hc2 : c < r := by omega
          clear hc0 hz
          have hp := HPP.out
          have hpc : c ≤ p := by omega
          have hpl : p < len + len := by omega
          have ea : ((p : Int) - (c : Int)).toNat = mid + m - 1 - c := by omega
          have pa : (0 : Int) ≤ (p : Int) - (c : Int) := by omega
          have ba : (p : Int) - (c : Int) < (len : Int) := by omega
          have bc : (c : Int) < (len : Int) := by omega
          have ra : IntKind.i64.wrap ((p : Int) - (c : Int)) = (p : Int) - (c : Int) := by rw [IntKind.wrap_i64]; omega
          clear hp
          have hdl := HDS.out
          have hd0 := HDS0.out
          have l1 := S1.out.ld R hd0 P (mid + m - 1 - c) (by omega)
          have l2 := S1.out.ld R hd0 P c (by omega)
          have hc := S1.out.cmp HC.out hd0 dk[mid + m - 1 - c]! dk[c]!
          have hv := HCF.out dk[mid + m - 1 - c]! dk[c]!
          clear hdl hd0
          obtain ⟨y, hy⟩ : ∃ y, y = dk[mid + m - 1 - c]! := ⟨_, rfl⟩
          obtain ⟨z, hz⟩ : ∃ z, z = dk[c]! := ⟨_, rfl⟩
          rw [← hy] at l1 hc hv
          rw [← hz] at l2 hc hv
          have HY := Lib.hid hy
          have HW := Lib.hid hz
          clear hy hz
          go_wp2_with fail
          rw [HZ2.out]
          by_cases hlv : cf y z < 0
          · have HV := Lib.hid (hv.1 hlv)
            have hd : decide (cf y z < 0) = true := decide_eq_true hlv
            clear hv
            go_wp2_with fail
            go_quiet_grown (first | (go_at_fn g; refine Calls.grown_of (hc _ _)))
            have S2 : Aside (SWK enc k w0 blk off dk (grow (wr.drewN nq) osq)) := S1.out.grown nq osq
            clear l1 l2 hc S1
            generalize grow (wr.drewN nq) osq = w2 at S2 ⊢
            go_wp2_with fail
            go_roundg (c - s)
            case measure => omega
            case rel => exact ⟨s, c, rfl, rfl, hls, hc1, by omega, Nat.le_refl _, S2, Lib.hid ⟨HI.out.1, fun _ => by rw [← HY.out, ← HW.out]; exact HV.out⟩⟩
          · have HV := Lib.hid (show (key y).less (key z) = false by
              rcases hq : (key y).less (key z) with _ | _
              · rfl
              · exact absurd (hv.2 hq) hlv)
            have hd : decide (cf y z < 0) = false := decide_eq_false hlv
            clear hv
            go_wp2_with fail
            go_quiet_grown (first | (go_at_fn g; refine Calls.grown_of (hc _ _)))
            have S2 : Aside (SWK enc k w0 blk off dk (grow (wr.drewN nq) osq)) := S1.out.grown nq osq
            clear l1 l2 hc S1
            generalize grow (wr.drewN nq) osq = w2 at S2 ⊢
            go_wp2_with fail
            go_roundg (r - (c + 1))
            case measure => omega
            case rel => exact ⟨c + 1, r, by go_num, rfl, by omega, by omega, hrh, Nat.le_refl _, S2, Lib.hid ⟨fun t ht1 ht2 => by
              obtain rfl : t = c := by omega
              rw [← HY.out, ← HW.out]; exact HV.out, HI.out.2⟩⟩
        · have hrs : r = s := by omega
          have hcut := cut_parts HE.out HDK.out HX.out HA.out HB.out hls (by omega : s ≤ m) HI.out.1 (by have := HI.out.2; rw [hrs] at this; exact this)
          obtain ⟨A1, A2, B1, B2, hab⟩ := hcut
          have HAB := Lib.hid hab
          obtain ⟨e, he⟩ : ∃ e, e = mid + m - s := ⟨_, rfl⟩
          have hn := HNN.out
          have hns : s ≤ n := by omega
          have hnl : n ≤ len + len := by omega
          have he2 : (n : Int) - (s : Int) = (e : Int) := by omega
          have HE2 := Lib.hid he2
          have HQ1 : Hid (s + A2.length = m) := Lib.hid (by have h1 := HA.out; rw [hab.1, List.length_append] at h1; have := hab.2.2.1; omega)
          have HQ3 : Hid (e + B2.length = b) := Lib.hid (by have h1 := HB.out; rw [hab.2.1, List.length_append] at h1; have := hab.2.2.2.1; omega)
          have SR : Aside (SWK enc k w0 blk off ((X ++ A1) ++ (A2 ++ (B1 ++ (B2 ++ Z)))).toArray wr) := by
            have := S1.out
            rw [HDK.out, hab.1, hab.2.1] at this
            simp only [List.append_assoc] at this ⊢
            exact this
          have hsr2 : ¬ (s : Int) < (r : Int) := by omega
          clear hab he2 HI hkx
          by_cases hA1 : a < s
          · by_cases hA2 : s < m
            · by_cases hB1 : s < mid
              · by_cases hB2 : e < b
                · have HRA : Hid (s + A2.length = m) := Lib.hid (by have := HQ1.out; omega)
                  have HR5a : 0 < A2.length := by have := HQ1.out; omega
                  have HR1 : Hid (((X ++ A1) ++ (A2 ++ (B1 ++ (B2 ++ Z)))).length = len) := Lib.hid (by have := HLL.out; rw [HAB.out.1, HAB.out.2.1] at this; simp only [List.length_append] at this ⊢; omega)
                  have HR2 : Hid ((X ++ A1).length = s) := Lib.hid (by rw [List.length_append, HX.out]; exact HAB.out.2.2.1)
                  have HR3 : Hid (s + A2.length = m) := HRA
                  have HR4 : Hid (m + B1.length = e) := Lib.hid (by have := HAB.out.2.2.2.1; omega)
                  have HR5 : Hid (0 < A2.length) := Lib.hid HR5a
                  have HR6 : Hid (0 < B1.length) := Lib.hid (by have := HAB.out.2.2.2.1; omega)
                  have HI7 : Hid (Srt key A1) := Lib.hid (by have := HSA.out; rw [HAB.out.1] at this; exact this.left)
                  have HI8 : Hid (Srt key B1) := Lib.hid (by have := HSB.out; rw [HAB.out.2.1] at this; exact this.left)
                  have HJ7 : Hid (Srt key A2) := Lib.hid (by have := HSA.out; rw [HAB.out.1] at this; exact this.right)
                  have HJ8 : Hid (Srt key B2) := Lib.hid (by have := HSB.out; rw [HAB.out.2.1] at this; exact this.right)
                  have HQ2 : Hid (X.length + (A1 ++ B1).length = mid) := Lib.hid (by have h1 := HAB.out.2.2.1; have h2 := HAB.out.2.2.2.1; have h3 := HX.out; rw [List.length_append]; omega)
                  have HI1 : Hid (A1.length + B1.length ≤ N) := Lib.hid (by have h1 := HN.out; rw [HAB.out.1, HAB.out.2.1] at h1; simp only [List.length_append] at h1; have h2 := HAB.out.2.2.1; have h3 := HAB.out.2.2.2.1; have h4 := HA.out; have h5 := HB.out; rw [HAB.out.1, List.length_append] at h4; rw [HAB.out.2.1, List.length_append] at h5; omega)
                  have HI2 : Hid ((X ++ (A1 ++ (B1 ++ ((A2 ++ B2) ++ Z)))).length = len) := Lib.hid (by have := HLL.out; rw [HAB.out.1, HAB.out.2.1] at this; simp only [List.length_append] at this ⊢; omega)
                  have HI3 : Hid (a + A1.length = s) := Lib.hid HAB.out.2.2.1
                  have HI4 : Hid (s + B1.length = mid) := Lib.hid (by have := HAB.out.2.2.2.1; omega)
                  have HI5 : Hid (0 < A1.length) := Lib.hid (by have := HAB.out.2.2.1; omega)
                  have HI6 : Hid (0 < B1.length) := Lib.hid (by have := HAB.out.2.2.2.1; omega)
                  have HJ1 : Hid (A2.length + B2.length ≤ N) := Lib.hid (by have h1 := HN.out; have h2 := HQ1.out; have h3 := HQ3.out; have h4 := HA.out; have h5 := HB.out; omega)
                  have HJ2 : Hid (mid + (A2 ++ (B2 ++ Z)).length = len) := Lib.hid (by have := HLL.out; have h2 := HQ2.out; rw [HAB.out.1, HAB.out.2.1] at this; simp only [List.length_append] at this h2 ⊢; omega)
                  have HJ3 : Hid (mid + A2.length = e) := Lib.hid (by have := HQ1.out; omega)
                  have HJ4 : Hid (e + B2.length = b) := Lib.hid (by have := HQ3.out; omega)
                  have HJ5 : Hid (0 < A2.length) := Lib.hid HR5a
                  have HJ6 : Hid (0 < B2.length) := Lib.hid (by have := HQ3.out; omega)
                  have q1 : (s : Int) < (m : Int) := by omega
                  have q2 : (m : Int) < (n : Int) - (s : Int) := by omega
                  have q3 : (m : Int) < (e : Int) := by omega
                  have q4 : (a : Int) < (s : Int) := by omega
                  have q5 : (s : Int) < (mid : Int) := by omega
                  have q6 : (mid : Int) < (n : Int) - (s : Int) := by omega
                  have q7 : (mid : Int) < (e : Int) := by omega
                  have q8 : (n : Int) - (s : Int) < (b : Int) := by omega
                  have q9 : (e : Int) < (b : Int) := by omega
                  clear hA1 hA2 hB1 hB2 he hn
                  clear S1
                  go_wp2_with fail
                  rw [HE2.out]
                  go_at_fn 150
                  refine (rotate_any k HF.out enc g cb blk off len cap s m e d0 w0 _ (X ++ A1) A2 B1 (B2 ++ Z) R HS.out SR.out HR1.out HR2.out HR3.out HR4.out HR5.out HR6.out hsz).mono ?_
                  rintro e1 w1 ⟨rfl, S2⟩
                  have S3 : Aside (SWK enc k w0 blk off (X ++ (A1 ++ (B1 ++ ((A2 ++ B2) ++ Z)))).toArray w1) := by
                    have := S2
                    simp only [List.append_assoc] at this ⊢
                    exact this
                  clear S2 SR
                  go_wp2_with fail
                  go_at_fn 149
                  refine (IH.out a s mid X A1 B1 ((A2 ++ B2) ++ Z) _ HI1.out S3.out HI2.out HX.out HI3.out HI4.out HI5.out HI6.out HI7.out HI8.out).mono ?_
                  rintro e2 w2 ⟨rfl, M1, hM1, S4⟩
                  have HM1 := Lib.hid hM1
                  have S5 : Aside (SWK enc k w0 blk off ((X ++ M1) ++ (A2 ++ (B2 ++ Z))).toArray w2) := by
                    have := S4
                    simp only [List.append_assoc] at this ⊢
                    exact this
                  clear S3 S4 hM1
                  go_wp2_with fail
                  (try rw [HE2.out])
                  have hlm : (X ++ M1).length = mid := by rw [List.length_append, HM1.out.fil.length]; exact HQ2.out
                  go_at_fn 149
                  refine (IH.out mid e b (X ++ M1) A2 B2 Z _ HJ1.out S5.out (by rw [List.length_append, hlm]; exact HJ2.out) hlm HJ3.out HJ4.out HJ5.out HJ6.out HJ7.out HJ8.out).mono ?_
                  clear hlm
                  rintro e3 w3 ⟨rfl, M2, hM2, S6⟩
                  have HM2 := Lib.hid hM2
                  clear S5 hM2
                  go_wp2_with fail
                  go_end0
                  refine ⟨rfl, M1 ++ M2, ?_, ?_⟩
                  · rw [HAB.out.1, HAB.out.2.1]
                    exact merge_parts (by have := HSA.out; rw [HAB.out.1] at this; exact this) (by have := HSB.out; rw [HAB.out.2.1] at this; exact this) HAB.out.2.2.2.2.1 HAB.out.2.2.2.2.2 HM1.out HM2.out
                  · have h := S6
                    simp only [List.append_assoc] at h ⊢
                    exact h
                · have HNB2 : Hid (B2 = []) := Lib.hid (List.eq_nil_of_length_eq_zero (by have := HQ3.out; omega))
                  have HRA : Hid (s + A2.length = m) := Lib.hid (by have := HQ1.out; omega)
                  have HR5a : 0 < A2.length := by have := HQ1.out; omega
                  have HR1 : Hid (((X ++ A1) ++ (A2 ++ (B1 ++ (B2 ++ Z)))).length = len) := Lib.hid (by have := HLL.out; rw [HAB.out.1, HAB.out.2.1] at this; simp only [List.length_append] at this ⊢; omega)
                  have HR2 : Hid ((X ++ A1).length = s) := Lib.hid (by rw [List.length_append, HX.out]; exact HAB.out.2.2.1)
                  have HR3 : Hid (s + A2.length = m) := HRA
                  have HR4 : Hid (m + B1.length = e) := Lib.hid (by have := HAB.out.2.2.2.1; omega)
                  have HR5 : Hid (0 < A2.length) := Lib.hid HR5a
                  have HR6 : Hid (0 < B1.length) := Lib.hid (by have := HAB.out.2.2.2.1; omega)
                  have HI7 : Hid (Srt key A1) := Lib.hid (by have := HSA.out; rw [HAB.out.1] at this; exact this.left)
                  have HI8 : Hid (Srt key B1) := Lib.hid (by have := HSB.out; rw [HAB.out.2.1] at this; exact this.left)
                  have HJ7 : Hid (Srt key A2) := Lib.hid (by have := HSA.out; rw [HAB.out.1] at this; exact this.right)
                  have HJ8 : Hid (Srt key B2) := Lib.hid (by have := HSB.out; rw [HAB.out.2.1] at this; exact this.right)
                  have HQ2 : Hid (X.length + (A1 ++ B1).length = mid) := Lib.hid (by have h1 := HAB.out.2.2.1; have h2 := HAB.out.2.2.2.1; have h3 := HX.out; rw [List.length_append]; omega)
                  have HI1 : Hid (A1.length + B1.length ≤ N) := Lib.hid (by have h1 := HN.out; rw [HAB.out.1, HAB.out.2.1] at h1; simp only [List.length_append] at h1; have h2 := HAB.out.2.2.1; have h3 := HAB.out.2.2.2.1; have h4 := HA.out; have h5 := HB.out; rw [HAB.out.1, List.length_append] at h4; rw [HAB.out.2.1, List.length_append] at h5; omega)
                  have HI2 : Hid ((X ++ (A1 ++ (B1 ++ ((A2 ++ B2) ++ Z)))).length = len) := Lib.hid (by have := HLL.out; rw [HAB.out.1, HAB.out.2.1] at this; simp only [List.length_append] at this ⊢; omega)
                  have HI3 : Hid (a + A1.length = s) := Lib.hid HAB.out.2.2.1
                  have HI4 : Hid (s + B1.length = mid) := Lib.hid (by have := HAB.out.2.2.2.1; omega)
                  have HI5 : Hid (0 < A1.length) := Lib.hid (by have := HAB.out.2.2.1; omega)
                  have HI6 : Hid (0 < B1.length) := Lib.hid (by have := HAB.out.2.2.2.1; omega)
                  have q1 : (s : Int) < (m : Int) := by omega
                  have q2 : (m : Int) < (n : Int) - (s : Int) := by omega
                  have q3 : (m : Int) < (e : Int) := by omega
                  have q4 : (a : Int) < (s : Int) := by omega
                  have q5 : (s : Int) < (mid : Int) := by omega
                  have q6 : (mid : Int) < (n : Int) - (s : Int) := by omega
                  have q7 : (mid : Int) < (e : Int) := by omega
                  have q8 : ¬ ((n : Int) - (s : Int) < (b : Int)) := by omega
                  have q9 : ¬ ((e : Int) < (b : Int)) := by omega
                  clear hA1 hA2 hB1 hB2 he hn
                  clear S1
                  go_wp2_with fail
                  rw [HE2.out]
                  go_at_fn 150
                  refine (rotate_any k HF.out enc g cb blk off len cap s m e d0 w0 _ (X ++ A1) A2 B1 (B2 ++ Z) R HS.out SR.out HR1.out HR2.out HR3.out HR4.out HR5.out HR6.out hsz).mono ?_
                  rintro e1 w1 ⟨rfl, S2⟩
                  have S3 : Aside (SWK enc k w0 blk off (X ++ (A1 ++ (B1 ++ ((A2 ++ B2) ++ Z)))).toArray w1) := by
                    have := S2
                    simp only [List.append_assoc] at this ⊢
                    exact this
                  clear S2 SR
                  go_wp2_with fail
                  go_at_fn 149
                  refine (IH.out a s mid X A1 B1 ((A2 ++ B2) ++ Z) _ HI1.out S3.out HI2.out HX.out HI3.out HI4.out HI5.out HI6.out HI7.out HI8.out).mono ?_
                  rintro e2 w2 ⟨rfl, M1, hM1, S4⟩
                  have HM1 := Lib.hid hM1
                  have S5 : Aside (SWK enc k w0 blk off ((X ++ M1) ++ (A2 ++ (B2 ++ Z))).toArray w2) := by
                    have := S4
                    simp only [List.append_assoc] at this ⊢
                    exact this
                  clear S3 S4 hM1
                  go_wp2_with fail
                  have HM2 : Hid (IsSrt key (A2 ++ B2) (A2 ++ B2)) := Lib.hid (IsSrt.same (by rw [HNB2.out]; simpa using HJ7.out))
                  have S6 : Aside (SWK enc k w0 blk off ((X ++ M1) ++ ((A2 ++ B2) ++ Z)).toArray w2) := by
                    have := S5.out
                    rw [List.append_assoc A2 B2 Z]
                    exact this
                  clear S5
                  go_end0
                  refine ⟨rfl, M1 ++ (A2 ++ B2), ?_, ?_⟩
                  · rw [HAB.out.1, HAB.out.2.1]
                    exact merge_parts (by have := HSA.out; rw [HAB.out.1] at this; exact this) (by have := HSB.out; rw [HAB.out.2.1] at this; exact this) HAB.out.2.2.2.2.1 HAB.out.2.2.2.2.2 HM1.out HM2.out
                  · have h := S6.out
                    simp only [List.append_assoc] at h ⊢
                    exact h
              · by_cases hB2 : e < b
                · exfalso
                  omega
                · exfalso
                  omega
            · by_cases hB1 : s < mid
              · by_cases hB2 : e < b
                · have HNA2 : Hid (A2 = []) := Lib.hid (List.eq_nil_of_length_eq_zero (by have := HQ1.out; omega))
                  have HI7 : Hid (Srt key A1) := Lib.hid (by have := HSA.out; rw [HAB.out.1] at this; exact this.left)
                  have HI8 : Hid (Srt key B1) := Lib.hid (by have := HSB.out; rw [HAB.out.2.1] at this; exact this.left)
                  have HJ7 : Hid (Srt key A2) := Lib.hid (by have := HSA.out; rw [HAB.out.1] at this; exact this.right)
                  have HJ8 : Hid (Srt key B2) := Lib.hid (by have := HSB.out; rw [HAB.out.2.1] at this; exact this.right)
                  have HQ2 : Hid (X.length + (A1 ++ B1).length = mid) := Lib.hid (by have h1 := HAB.out.2.2.1; have h2 := HAB.out.2.2.2.1; have h3 := HX.out; rw [List.length_append]; omega)
                  have HI1 : Hid (A1.length + B1.length ≤ N) := Lib.hid (by have h1 := HN.out; rw [HAB.out.1, HAB.out.2.1] at h1; simp only [List.length_append] at h1; have h2 := HAB.out.2.2.1; have h3 := HAB.out.2.2.2.1; have h4 := HA.out; have h5 := HB.out; rw [HAB.out.1, List.length_append] at h4; rw [HAB.out.2.1, List.length_append] at h5; omega)
                  have HI2 : Hid ((X ++ (A1 ++ (B1 ++ ((A2 ++ B2) ++ Z)))).length = len) := Lib.hid (by have := HLL.out; rw [HAB.out.1, HAB.out.2.1] at this; simp only [List.length_append] at this ⊢; omega)
                  have HI3 : Hid (a + A1.length = s) := Lib.hid HAB.out.2.2.1
                  have HI4 : Hid (s + B1.length = mid) := Lib.hid (by have := HAB.out.2.2.2.1; omega)
                  have HI5 : Hid (0 < A1.length) := Lib.hid (by have := HAB.out.2.2.1; omega)
                  have HI6 : Hid (0 < B1.length) := Lib.hid (by have := HAB.out.2.2.2.1; omega)
                  have q1 : ¬ ((s : Int) < (m : Int)) := by omega
                  have q2 : (m : Int) < (n : Int) - (s : Int) := by omega
                  have q3 : (m : Int) < (e : Int) := by omega
                  have q4 : (a : Int) < (s : Int) := by omega
                  have q5 : (s : Int) < (mid : Int) := by omega
                  have q6 : ¬ ((mid : Int) < (n : Int) - (s : Int)) := by omega
                  have q7 : ¬ ((mid : Int) < (e : Int)) := by omega
                  have q8 : (n : Int) - (s : Int) < (b : Int) := by omega
                  have q9 : (e : Int) < (b : Int) := by omega
                  clear hA1 hA2 hB1 hB2 he hn
                  clear S1
                  go_wp2_with fail
                  have S3 : Aside (SWK enc k w0 blk off (X ++ (A1 ++ (B1 ++ ((A2 ++ B2) ++ Z)))).toArray wr) := by
                    have := SR.out
                    rw [HNA2.out] at this ⊢
                    simp only [List.append_assoc, List.nil_append, List.append_nil] at this ⊢
                    exact this
                  clear SR
                  go_at_fn 149
                  refine (IH.out a s mid X A1 B1 ((A2 ++ B2) ++ Z) _ HI1.out S3.out HI2.out HX.out HI3.out HI4.out HI5.out HI6.out HI7.out HI8.out).mono ?_
                  rintro e2 w2 ⟨rfl, M1, hM1, S4⟩
                  have HM1 := Lib.hid hM1
                  have S5 : Aside (SWK enc k w0 blk off ((X ++ M1) ++ (A2 ++ (B2 ++ Z))).toArray w2) := by
                    have := S4
                    simp only [List.append_assoc] at this ⊢
                    exact this
                  clear S3 S4 hM1
                  go_wp2_with fail
                  have HM2 : Hid (IsSrt key (A2 ++ B2) (A2 ++ B2)) := Lib.hid (IsSrt.same (by rw [HNA2.out]; simpa using HJ8.out))
                  have S6 : Aside (SWK enc k w0 blk off ((X ++ M1) ++ ((A2 ++ B2) ++ Z)).toArray w2) := by
                    have := S5.out
                    rw [List.append_assoc A2 B2 Z]
                    exact this
                  clear S5
                  go_end0
                  refine ⟨rfl, M1 ++ (A2 ++ B2), ?_, ?_⟩
                  · rw [HAB.out.1, HAB.out.2.1]
                    exact merge_parts (by have := HSA.out; rw [HAB.out.1] at this; exact this) (by have := HSB.out; rw [HAB.out.2.1] at this; exact this) HAB.out.2.2.2.2.1 HAB.out.2.2.2.2.2 HM1.out HM2.out
                  · have h := S6.out
                    simp only [List.append_assoc] at h ⊢
                    exact h
                · exfalso
                  omega
              · by_cases hB2 : e < b
                · have HNA2 : Hid (A2 = []) := Lib.hid (List.eq_nil_of_length_eq_zero (by have := HQ1.out; omega))
                  have HNB1 : Hid (B1 = []) := Lib.hid (List.eq_nil_of_length_eq_zero (by have := HAB.out.2.2.2.1; omega))
                  have HI7 : Hid (Srt key A1) := Lib.hid (by have := HSA.out; rw [HAB.out.1] at this; exact this.left)
                  have HI8 : Hid (Srt key B1) := Lib.hid (by have := HSB.out; rw [HAB.out.2.1] at this; exact this.left)
                  have HJ7 : Hid (Srt key A2) := Lib.hid (by have := HSA.out; rw [HAB.out.1] at this; exact this.right)
                  have HJ8 : Hid (Srt key B2) := Lib.hid (by have := HSB.out; rw [HAB.out.2.1] at this; exact this.right)
                  have HQ2 : Hid (X.length + (A1 ++ B1).length = mid) := Lib.hid (by have h1 := HAB.out.2.2.1; have h2 := HAB.out.2.2.2.1; have h3 := HX.out; rw [List.length_append]; omega)
                  have q1 : ¬ ((s : Int) < (m : Int)) := by omega
                  have q2 : ¬ ((m : Int) < (n : Int) - (s : Int)) := by omega
                  have q3 : ¬ ((m : Int) < (e : Int)) := by omega
                  have q4 : (a : Int) < (s : Int) := by omega
                  have q5 : ¬ ((s : Int) < (mid : Int)) := by omega
                  have q6 : ¬ ((mid : Int) < (n : Int) - (s : Int)) := by omega
                  have q7 : ¬ ((mid : Int) < (e : Int)) := by omega
                  have q8 : (n : Int) - (s : Int) < (b : Int) := by omega
                  have q9 : (e : Int) < (b : Int) := by omega
                  clear hA1 hA2 hB1 hB2 he hn
                  clear S1
                  go_wp2_with fail
                  have S3 : Aside (SWK enc k w0 blk off (X ++ (A1 ++ (B1 ++ ((A2 ++ B2) ++ Z)))).toArray wr) := by
                    have := SR.out
                    rw [HNA2.out] at this ⊢
                    simp only [List.append_assoc, List.nil_append, List.append_nil] at this ⊢
                    exact this
                  clear SR
                  have HM1 : Hid (IsSrt key (A1 ++ B1) (A1 ++ B1)) := Lib.hid (IsSrt.same (by rw [HNB1.out]; simpa using HI7.out))
                  have S5 : Aside (SWK enc k w0 blk off ((X ++ (A1 ++ B1)) ++ (A2 ++ (B2 ++ Z))).toArray wr) := by
                    have := S3.out
                    simp only [List.append_assoc] at this ⊢
                    exact this
                  clear S3
                  have HM2 : Hid (IsSrt key (A2 ++ B2) (A2 ++ B2)) := Lib.hid (IsSrt.same (by rw [HNA2.out]; simpa using HJ8.out))
                  have S6 : Aside (SWK enc k w0 blk off ((X ++ (A1 ++ B1)) ++ ((A2 ++ B2) ++ Z)).toArray wr) := by
                    have := S5.out
                    rw [List.append_assoc A2 B2 Z]
                    exact this
                  clear S5
                  go_end0
                  refine ⟨rfl, (A1 ++ B1) ++ (A2 ++ B2), ?_, ?_⟩
                  · rw [HAB.out.1, HAB.out.2.1]
                    exact merge_parts (by have := HSA.out; rw [HAB.out.1] at this; exact this) (by have := HSB.out; rw [HAB.out.2.1] at this; exact this) HAB.out.2.2.2.2.1 HAB.out.2.2.2.2.2 HM1.out HM2.out
                  · have h := S6.out
                    simp only [List.append_assoc] at h ⊢
                    exact h
                · exfalso
                  omega
          · by_cases hA2 : s < m
            · by_cases hB1 : s < mid
              · by_cases hB2 : e < b
                · have HNA1 : Hid (A1 = []) := Lib.hid (List.eq_nil_of_length_eq_zero (by have := HAB.out.2.2.1; omega))
                  have HRA : Hid (s + A2.length = m) := Lib.hid (by have := HQ1.out; omega)
                  have HR5a : 0 < A2.length := by have := HQ1.out; omega
                  have HR1 : Hid (((X ++ A1) ++ (A2 ++ (B1 ++ (B2 ++ Z)))).length = len) := Lib.hid (by have := HLL.out; rw [HAB.out.1, HAB.out.2.1] at this; simp only [List.length_append] at this ⊢; omega)
                  have HR2 : Hid ((X ++ A1).length = s) := Lib.hid (by rw [List.length_append, HX.out]; exact HAB.out.2.2.1)
                  have HR3 : Hid (s + A2.length = m) := HRA
                  have HR4 : Hid (m + B1.length = e) := Lib.hid (by have := HAB.out.2.2.2.1; omega)
                  have HR5 : Hid (0 < A2.length) := Lib.hid HR5a
                  have HR6 : Hid (0 < B1.length) := Lib.hid (by have := HAB.out.2.2.2.1; omega)
                  have HI7 : Hid (Srt key A1) := Lib.hid (by have := HSA.out; rw [HAB.out.1] at this; exact this.left)
                  have HI8 : Hid (Srt key B1) := Lib.hid (by have := HSB.out; rw [HAB.out.2.1] at this; exact this.left)
                  have HJ7 : Hid (Srt key A2) := Lib.hid (by have := HSA.out; rw [HAB.out.1] at this; exact this.right)
                  have HJ8 : Hid (Srt key B2) := Lib.hid (by have := HSB.out; rw [HAB.out.2.1] at this; exact this.right)
                  have HQ2 : Hid (X.length + (A1 ++ B1).length = mid) := Lib.hid (by have h1 := HAB.out.2.2.1; have h2 := HAB.out.2.2.2.1; have h3 := HX.out; rw [List.length_append]; omega)
                  have HJ1 : Hid (A2.length + B2.length ≤ N) := Lib.hid (by have h1 := HN.out; have h2 := HQ1.out; have h3 := HQ3.out; have h4 := HA.out; have h5 := HB.out; omega)
                  have HJ2 : Hid (mid + (A2 ++ (B2 ++ Z)).length = len) := Lib.hid (by have := HLL.out; have h2 := HQ2.out; rw [HAB.out.1, HAB.out.2.1] at this; simp only [List.length_append] at this h2 ⊢; omega)
                  have HJ3 : Hid (mid + A2.length = e) := Lib.hid (by have := HQ1.out; omega)
                  have HJ4 : Hid (e + B2.length = b) := Lib.hid (by have := HQ3.out; omega)
                  have HJ5 : Hid (0 < A2.length) := Lib.hid HR5a
                  have HJ6 : Hid (0 < B2.length) := Lib.hid (by have := HQ3.out; omega)
                  have q1 : (s : Int) < (m : Int) := by omega
                  have q2 : (m : Int) < (n : Int) - (s : Int) := by omega
                  have q3 : (m : Int) < (e : Int) := by omega
                  have q4 : ¬ ((a : Int) < (s : Int)) := by omega
                  have q5 : (s : Int) < (mid : Int) := by omega
                  have q6 : (mid : Int) < (n : Int) - (s : Int) := by omega
                  have q7 : (mid : Int) < (e : Int) := by omega
                  have q8 : (n : Int) - (s : Int) < (b : Int) := by omega
                  have q9 : (e : Int) < (b : Int) := by omega
                  clear hA1 hA2 hB1 hB2 he hn
                  clear S1
                  go_wp2_with fail
                  rw [HE2.out]
                  go_at_fn 150
                  refine (rotate_any k HF.out enc g cb blk off len cap s m e d0 w0 _ (X ++ A1) A2 B1 (B2 ++ Z) R HS.out SR.out HR1.out HR2.out HR3.out HR4.out HR5.out HR6.out hsz).mono ?_
                  rintro e1 w1 ⟨rfl, S2⟩
                  have S3 : Aside (SWK enc k w0 blk off (X ++ (A1 ++ (B1 ++ ((A2 ++ B2) ++ Z)))).toArray w1) := by
                    have := S2
                    simp only [List.append_assoc] at this ⊢
                    exact this
                  clear S2 SR
                  go_wp2_with fail
                  have HM1 : Hid (IsSrt key (A1 ++ B1) (A1 ++ B1)) := Lib.hid (IsSrt.same (by rw [HNA1.out]; simpa using HI8.out))
                  have S5 : Aside (SWK enc k w0 blk off ((X ++ (A1 ++ B1)) ++ (A2 ++ (B2 ++ Z))).toArray w1) := by
                    have := S3.out
                    simp only [List.append_assoc] at this ⊢
                    exact this
                  clear S3
                  (try rw [HE2.out])
                  have hlm : (X ++ (A1 ++ B1)).length = mid := by rw [List.length_append, HM1.out.fil.length]; exact HQ2.out
                  go_at_fn 149
                  refine (IH.out mid e b (X ++ (A1 ++ B1)) A2 B2 Z _ HJ1.out S5.out (by rw [List.length_append, hlm]; exact HJ2.out) hlm HJ3.out HJ4.out HJ5.out HJ6.out HJ7.out HJ8.out).mono ?_
                  clear hlm
                  rintro e3 w3 ⟨rfl, M2, hM2, S6⟩
                  have HM2 := Lib.hid hM2
                  clear S5 hM2
                  go_wp2_with fail
                  go_end0
                  refine ⟨rfl, (A1 ++ B1) ++ M2, ?_, ?_⟩
                  · rw [HAB.out.1, HAB.out.2.1]
                    exact merge_parts (by have := HSA.out; rw [HAB.out.1] at this; exact this) (by have := HSB.out; rw [HAB.out.2.1] at this; exact this) HAB.out.2.2.2.2.1 HAB.out.2.2.2.2.2 HM1.out HM2.out
                  · have h := S6
                    simp only [List.append_assoc] at h ⊢
                    exact h
                · have HNA1 : Hid (A1 = []) := Lib.hid (List.eq_nil_of_length_eq_zero (by have := HAB.out.2.2.1; omega))
                  have HNB2 : Hid (B2 = []) := Lib.hid (List.eq_nil_of_length_eq_zero (by have := HQ3.out; omega))
                  have HRA : Hid (s + A2.length = m) := Lib.hid (by have := HQ1.out; omega)
                  have HR5a : 0 < A2.length := by have := HQ1.out; omega
                  have HR1 : Hid (((X ++ A1) ++ (A2 ++ (B1 ++ (B2 ++ Z)))).length = len) := Lib.hid (by have := HLL.out; rw [HAB.out.1, HAB.out.2.1] at this; simp only [List.length_append] at this ⊢; omega)
                  have HR2 : Hid ((X ++ A1).length = s) := Lib.hid (by rw [List.length_append, HX.out]; exact HAB.out.2.2.1)
                  have HR3 : Hid (s + A2.length = m) := HRA
                  have HR4 : Hid (m + B1.length = e) := Lib.hid (by have := HAB.out.2.2.2.1; omega)
                  have HR5 : Hid (0 < A2.length) := Lib.hid HR5a
                  have HR6 : Hid (0 < B1.length) := Lib.hid (by have := HAB.out.2.2.2.1; omega)
                  have HI7 : Hid (Srt key A1) := Lib.hid (by have := HSA.out; rw [HAB.out.1] at this; exact this.left)
                  have HI8 : Hid (Srt key B1) := Lib.hid (by have := HSB.out; rw [HAB.out.2.1] at this; exact this.left)
                  have HJ7 : Hid (Srt key A2) := Lib.hid (by have := HSA.out; rw [HAB.out.1] at this; exact this.right)
                  have HJ8 : Hid (Srt key B2) := Lib.hid (by have := HSB.out; rw [HAB.out.2.1] at this; exact this.right)
                  have HQ2 : Hid (X.length + (A1 ++ B1).length = mid) := Lib.hid (by have h1 := HAB.out.2.2.1; have h2 := HAB.out.2.2.2.1; have h3 := HX.out; rw [List.length_append]; omega)
                  have q1 : (s : Int) < (m : Int) := by omega
                  have q2 : (m : Int) < (n : Int) - (s : Int) := by omega
                  have q3 : (m : Int) < (e : Int) := by omega
                  have q4 : ¬ ((a : Int) < (s : Int)) := by omega
                  have q5 : (s : Int) < (mid : Int) := by omega
                  have q6 : (mid : Int) < (n : Int) - (s : Int) := by omega
                  have q7 : (mid : Int) < (e : Int) := by omega
                  have q8 : ¬ ((n : Int) - (s : Int) < (b : Int)) := by omega
                  have q9 : ¬ ((e : Int) < (b : Int)) := by omega
                  clear hA1 hA2 hB1 hB2 he hn
                  clear S1
                  go_wp2_with fail
                  rw [HE2.out]
                  go_at_fn 150
                  refine (rotate_any k HF.out enc g cb blk off len cap s m e d0 w0 _ (X ++ A1) A2 B1 (B2 ++ Z) R HS.out SR.out HR1.out HR2.out HR3.out HR4.out HR5.out HR6.out hsz).mono ?_
                  rintro e1 w1 ⟨rfl, S2⟩
                  have S3 : Aside (SWK enc k w0 blk off (X ++ (A1 ++ (B1 ++ ((A2 ++ B2) ++ Z)))).toArray w1) := by
                    have := S2
                    simp only [List.append_assoc] at this ⊢
                    exact this
                  clear S2 SR
                  go_wp2_with fail
                  have HM1 : Hid (IsSrt key (A1 ++ B1) (A1 ++ B1)) := Lib.hid (IsSrt.same (by rw [HNA1.out]; simpa using HI8.out))
                  have S5 : Aside (SWK enc k w0 blk off ((X ++ (A1 ++ B1)) ++ (A2 ++ (B2 ++ Z))).toArray w1) := by
                    have := S3.out
                    simp only [List.append_assoc] at this ⊢
                    exact this
                  clear S3
                  have HM2 : Hid (IsSrt key (A2 ++ B2) (A2 ++ B2)) := Lib.hid (IsSrt.same (by rw [HNB2.out]; simpa using HJ7.out))
                  have S6 : Aside (SWK enc k w0 blk off ((X ++ (A1 ++ B1)) ++ ((A2 ++ B2) ++ Z)).toArray w1) := by
                    have := S5.out
                    rw [List.append_assoc A2 B2 Z]
                    exact this
                  clear S5
                  go_end0
                  refine ⟨rfl, (A1 ++ B1) ++ (A2 ++ B2), ?_, ?_⟩
                  · rw [HAB.out.1, HAB.out.2.1]
                    exact merge_parts (by have := HSA.out; rw [HAB.out.1] at this; exact this) (by have := HSB.out; rw [HAB.out.2.1] at this; exact this) HAB.out.2.2.2.2.1 HAB.out.2.2.2.2.2 HM1.out HM2.out
                  · have h := S6.out
                    simp only [List.append_assoc] at h ⊢
                    exact h
              · by_cases hB2 : e < b
                · exfalso
                  omega
                · exfalso
                  omega
            · by_cases hB1 : s < mid
              · by_cases hB2 : e < b
                · have HNA1 : Hid (A1 = []) := Lib.hid (List.eq_nil_of_length_eq_zero (by have := HAB.out.2.2.1; omega))
                  have HNA2 : Hid (A2 = []) := Lib.hid (List.eq_nil_of_length_eq_zero (by have := HQ1.out; omega))
                  have HI7 : Hid (Srt key A1) := Lib.hid (by have := HSA.out; rw [HAB.out.1] at this; exact this.left)
                  have HI8 : Hid (Srt key B1) := Lib.hid (by have := HSB.out; rw [HAB.out.2.1] at this; exact this.left)
                  have HJ7 : Hid (Srt key A2) := Lib.hid (by have := HSA.out; rw [HAB.out.1] at this; exact this.right)
                  have HJ8 : Hid (Srt key B2) := Lib.hid (by have := HSB.out; rw [HAB.out.2.1] at this; exact this.right)
                  have HQ2 : Hid (X.length + (A1 ++ B1).length = mid) := Lib.hid (by have h1 := HAB.out.2.2.1; have h2 := HAB.out.2.2.2.1; have h3 := HX.out; rw [List.length_append]; omega)
                  have q1 : ¬ ((s : Int) < (m : Int)) := by omega
                  have q2 : (m : Int) < (n : Int) - (s : Int) := by omega
                  have q3 : (m : Int) < (e : Int) := by omega
                  have q4 : ¬ ((a : Int) < (s : Int)) := by omega
                  have q5 : (s : Int) < (mid : Int) := by omega
                  have q6 : ¬ ((mid : Int) < (n : Int) - (s : Int)) := by omega
                  have q7 : ¬ ((mid : Int) < (e : Int)) := by omega
                  have q8 : (n : Int) - (s : Int) < (b : Int) := by omega
                  have q9 : (e : Int) < (b : Int) := by omega
                  clear hA1 hA2 hB1 hB2 he hn
                  clear S1
                  go_wp2_with fail
                  have S3 : Aside (SWK enc k w0 blk off (X ++ (A1 ++ (B1 ++ ((A2 ++ B2) ++ Z)))).toArray wr) := by
                    have := SR.out
                    rw [HNA2.out] at this ⊢
                    simp only [List.append_assoc, List.nil_append, List.append_nil] at this ⊢
                    exact this
                  clear SR
                  have HM1 : Hid (IsSrt key (A1 ++ B1) (A1 ++ B1)) := Lib.hid (IsSrt.same (by rw [HNA1.out]; simpa using HI8.out))
                  have S5 : Aside (SWK enc k w0 blk off ((X ++ (A1 ++ B1)) ++ (A2 ++ (B2 ++ Z))).toArray wr) := by
                    have := S3.out
                    simp only [List.append_assoc] at this ⊢
                    exact this
                  clear S3
                  have HM2 : Hid (IsSrt key (A2 ++ B2) (A2 ++ B2)) := Lib.hid (IsSrt.same (by rw [HNA2.out]; simpa using HJ8.out))
                  have S6 : Aside (SWK enc k w0 blk off ((X ++ (A1 ++ B1)) ++ ((A2 ++ B2) ++ Z)).toArray wr) := by
                    have := S5.out
                    rw [List.append_assoc A2 B2 Z]
                    exact this
                  clear S5
                  go_end0
                  refine ⟨rfl, (A1 ++ B1) ++ (A2 ++ B2), ?_, ?_⟩
                  · rw [HAB.out.1, HAB.out.2.1]
                    exact merge_parts (by have := HSA.out; rw [HAB.out.1] at this; exact this) (by have := HSB.out; rw [HAB.out.2.1] at this; exact this) HAB.out.2.2.2.2.1 HAB.out.2.2.2.2.2 HM1.out HM2.out
                  · have h := S6.out
                    simp only [List.append_assoc] at h ⊢
                    exact h
                · exfalso
                  omega
              · by_cases hB2 : e < b
                · have HNA1 : Hid (A1 = []) := Lib.hid (List.eq_nil_of_length_eq_zero (by have := HAB.out.2.2.1; omega))
                  have HNA2 : Hid (A2 = []) := Lib.hid (List.eq_nil_of_length_eq_zero (by have := HQ1.out; omega))
                  have HNB1 : Hid (B1 = []) := Lib.hid (List.eq_nil_of_length_eq_zero (by have := HAB.out.2.2.2.1; omega))
                  have HI7 : Hid (Srt key A1) := Lib.hid (by have := HSA.out; rw [HAB.out.1] at this; exact this.left)
                  have HI8 : Hid (Srt key B1) := Lib.hid (by have := HSB.out; rw [HAB.out.2.1] at this; exact this.left)
                  have HJ7 : Hid (Srt key A2) := Lib.hid (by have := HSA.out; rw [HAB.out.1] at this; exact this.right)
                  have HJ8 : Hid (Srt key B2) := Lib.hid (by have := HSB.out; rw [HAB.out.2.1] at this; exact this.right)
                  have HQ2 : Hid (X.length + (A1 ++ B1).length = mid) := Lib.hid (by have h1 := HAB.out.2.2.1; have h2 := HAB.out.2.2.2.1; have h3 := HX.out; rw [List.length_append]; omega)
                  have q1 : ¬ ((s : Int) < (m : Int)) := by omega
                  have q2 : ¬ ((m : Int) < (n : Int) - (s : Int)) := by omega
                  have q3 : ¬ ((m : Int) < (e : Int)) := by omega
                  have q4 : ¬ ((a : Int) < (s : Int)) := by omega
                  have q5 : ¬ ((s : Int) < (mid : Int)) := by omega
                  have q6 : ¬ ((mid : Int) < (n : Int) - (s : Int)) := by omega
                  have q7 : ¬ ((mid : Int) < (e : Int)) := by omega
                  have q8 : (n : Int) - (s : Int) < (b : Int) := by omega
                  have q9 : (e : Int) < (b : Int) := by omega
                  clear hA1 hA2 hB1 hB2 he hn
                  clear S1
                  go_wp2_with fail
                  have S3 : Aside (SWK enc k w0 blk off (X ++ (A1 ++ (B1 ++ ((A2 ++ B2) ++ Z)))).toArray wr) := by
                    have := SR.out
                    rw [HNA2.out] at this ⊢
                    simp only [List.append_assoc, List.nil_append, List.append_nil] at this ⊢
                    exact this
                  clear SR
                  have HM1 : Hid (IsSrt key (A1 ++ B1) (A1 ++ B1)) := Lib.hid (IsSrt.same (by rw [HNA1.out]; simpa using HI8.out))
                  have S5 : Aside (SWK enc k w0 blk off ((X ++ (A1 ++ B1)) ++ (A2 ++ (B2 ++ Z))).toArray wr) := by
                    have := S3.out
                    simp only [List.append_assoc] at this ⊢
                    exact this
                  clear S3
                  have HM2 : Hid (IsSrt key (A2 ++ B2) (A2 ++ B2)) := Lib.hid (IsSrt.same (by rw [HNA2.out]; simpa using HJ8.out))
                  have S6 : Aside (SWK enc k w0 blk off ((X ++ (A1 ++ B1)) ++ ((A2 ++ B2) ++ Z)).toArray wr) := by
                    have := S5.out
                    rw [List.append_assoc A2 B2 Z]
                    exact this
                  clear S5
                  go_end0
                  refine ⟨rfl, (A1 ++ B1) ++ (A2 ++ B2), ?_, ?_⟩
                  · rw [HAB.out.1, HAB.out.2.1]
                    exact merge_parts (by have := HSA.out; rw [HAB.out.1] at this; exact this) (by have := HSB.out; rw [HAB.out.2.1] at this; exact this) HAB.out.2.2.2.2.1 HAB.out.2.2.2.2.2 HM1.out HM2.out
                  · have h := S6.out
                    simp only [List.append_assoc] at h ⊢
                    exact h
                · exfalso
                  omega
end Go.Proofs.Ytfocjcdfpnbkjaa
