/- The stable sort's family, over a program that is a variable: swapRange. -/
import Derived.Test.YtafenlacacghoaaMsg
import Derived.Test.YtafenlacacghoaaSortMath
import Derived.Sort.WalkB2
import Derived.Sort.WalkB12
import Derived.Deep.LoopGhost
set_option linter.unusedVariables false
set_option linter.unusedSimpArgs false
namespace Go.Proofs.Ytafenlacacghoaa
open Go.Shelf Go.RowKit Go.Lib Go.Sort

/-- What the family is told of the program: three bodies, their types, an element of k cells. -/
structure Fam (P : Program) (k : Nat) : Prop where
  mixed : P.follows .mixedOrders = true
  fm : P.funcs[50]? = some Try.f50
  fr : P.funcs[51]? = some Try.f51
  fs : P.funcs[52]? = some Try.f52
  t0 : P.underlying 0 = some (TypeDesc.tuple #[])
  a0 : ∀ w, (isAgg 0).run P w = .ok false w
  z0 : ∀ w, (Go.sizeOf 0).run P w = .ok 1 w
  v0 : ∀ w, (zeroValue 0).run P w = .ok (Value.tuple #[]) w
  t3 : P.underlying 3 = some (TypeDesc.int IntKind.i64)
  a3 : ∀ w, (isAgg 3).run P w = .ok false w
  z3 : ∀ w, (Go.sizeOf 3).run P w = .ok 1 w
  v3 : ∀ w, (zeroValue 3).run P w = .ok (Value.int IntKind.i64 0) w
  t4 : P.underlying 4 = some (TypeDesc.bool)
  a4 : ∀ w, (isAgg 4).run P w = .ok false w
  z4 : ∀ w, (Go.sizeOf 4).run P w = .ok 1 w
  v4 : ∀ w, (zeroValue 4).run P w = .ok (Value.bool false) w
  t40 : P.underlying 31 = some (TypeDesc.slice 37)
  a40 : ∀ w, (isAgg 31).run P w = .ok false w
  z40 : ∀ w, (Go.sizeOf 31).run P w = .ok 1 w
  v40 : ∀ w, (zeroValue 31).run P w = .ok (Value.slice none 0 0) w
  t64 : P.underlying 80 = some (TypeDesc.func #[37, 37] #[3] false)
  a64 : ∀ w, (isAgg 80).run P w = .ok false w
  z64 : ∀ w, (Go.sizeOf 80).run P w = .ok 1 w
  v64 : ∀ w, (zeroValue 80).run P w = .ok (Value.nilFunc) w
  t71 : P.underlying 86 = some (TypeDesc.int IntKind.u64)
  a71 : ∀ w, (isAgg 86).run P w = .ok false w
  z71 : ∀ w, (Go.sizeOf 86).run P w = .ok 1 w
  v71 : ∀ w, (zeroValue 86).run P w = .ok (Value.int IntKind.u64 0) w
  aE : ∀ w, (isAgg 37).run P w = .ok true w
  zE : ∀ w, (Go.sizeOf 37).run P w = .ok k w

theorem fam : Fam Try.prog 6 where
  mixed := by kernel_rfl
  fm := Try.func50
  fr := Try.func51
  fs := Try.func52
  t0 := Try.underlying0
  a0 := Try.isAgg0
  z0 := Try.sizeOf0
  v0 := Try.zeroValue0
  t3 := Try.underlying3
  a3 := Try.isAgg3
  z3 := Try.sizeOf3
  v3 := Try.zeroValue3
  t4 := Try.underlying4
  a4 := Try.isAgg4
  z4 := Try.sizeOf4
  v4 := Try.zeroValue4
  t40 := Try.underlying31
  a40 := Try.isAgg31
  z40 := Try.sizeOf31
  v40 := Try.zeroValue31
  t64 := Try.underlying80
  a64 := Try.isAgg80
  z64 := Try.sizeOf80
  v64 := Try.zeroValue80
  t71 := Try.underlying86
  a71 := Try.isAgg86
  z71 := Try.sizeOf86
  v71 := Try.zeroValue86
  aE := Try.isAgg37
  zE := Try.sizeOf37

variable {P : Program} {α : Type} [Inhabited α]

set_option maxHeartbeats 4000000 in
set_option maxRecDepth 1000000 in
theorem swapRange_any (k : Nat) (F : Fam P k) (enc : α → List Value) (g : Nat) (cb : Array Value) (blk off len cap a b n : Nat) (d0 : Array α) (w0 w : World) (X A Y B Z : List α)
    (R : RowK enc k w0 blk off d0) (hs : d0.size = len) (S : SWK enc k w0 blk off (X ++ (A ++ (Y ++ (B ++ Z)))).toArray w)
    (hL : (X ++ (A ++ (Y ++ (B ++ Z)))).length = len) (hX : X.length = a) (hA : A.length = n) (hY : a + n + Y.length = b) (hB : B.length = n) (hsz : len < 4611686018427387904) :
    Calls P 52 #[.slice (some ⟨blk, off, none⟩) len cap, .int .i64 a, .int .i64 b, .int .i64 n, .func (.func g) #[] cb] w fun e w' => e = .returned (.tuple #[]) ∧ SWK enc k w0 blk off (X ++ (B ++ (Y ++ (A ++ Z)))).toArray w' := by
  have mixed := F.mixed; have t0 := F.t0; have a0 := F.a0; have z0 := F.z0; have v0 := F.v0; have t3 := F.t3; have a3 := F.a3; have z3 := F.z3; have v3 := F.v3; have t4 := F.t4; have a4 := F.a4; have z4 := F.z4; have v4 := F.v4; have t40 := F.t40; have a40 := F.a40; have z40 := F.z40; have v40 := F.v40; have t64 := F.t64; have a64 := F.a64; have z64 := F.z64; have v64 := F.v64; have aE := F.aE; have zE := F.zE
  have FG := F.fs
  clear F
  have S0 : Aside (SWK enc k w0 blk off (X ++ (A ++ (Y ++ (B ++ Z)))).toArray w) := S
  have hbb : b + n ≤ len := by simp only [List.length_append] at hL; omega
  have hab : a + n ≤ b := by omega
  have HX := Lib.hid hX
  have HA := Lib.hid hA
  have HY := Lib.hid hY
  have HB := Lib.hid hB
  have HL := Lib.hid hL
  have HS := Lib.hid hs
  clear S hX hA hY hB hL hs
  go_enter FG, Try.ntmps52
  go_wp2
  go_loopg [10] n (fun kx s10 wr => ∃ (i : Nat) (A1 A2 B1 B2 : List α), s10 = .int .i64 i ∧ i ≤ n ∧ n - i ≤ kx ∧ Hid (A = A1 ++ A2 ∧ B = B1 ++ B2 ∧ A1.length = i ∧ B1.length = i) ∧
    Aside (SWK enc k w0 blk off (X ++ ((B1 ++ A2) ++ (Y ++ ((A1 ++ B2) ++ Z)))).toArray wr))
  case atStart => exact ⟨0, [], A, [], B, rfl, Nat.zero_le _, by omega, Lib.hid ⟨rfl, rfl, rfl, rfl⟩, S0⟩
  case round =>
    clear S0
    obtain ⟨i, A1, A2, B1, B2, rfl, hi, hkx, HP, S1⟩ := hrel
    by_cases hlt : i < n
    · obtain ⟨x, A3, hA2⟩ : ∃ x A3, A2 = x :: A3 := by
        match A2 with
        | x :: A3 => exact ⟨x, A3, rfl⟩
        | [] => have h1 := HP.out.1; have h2 := HP.out.2.2.1; have h3 := HA.out; rw [h1, List.append_nil] at h3; omega
      obtain ⟨y, B3, hB2⟩ : ∃ y B3, B2 = y :: B3 := by
        match B2 with
        | y :: B3 => exact ⟨y, B3, rfl⟩
        | [] => have h1 := HP.out.2.1; have h2 := HP.out.2.2.2; have h3 := HB.out; rw [h1, List.append_nil] at h3; omega
      subst hA2 hB2
      obtain ⟨dk, hdk⟩ : ∃ dk, dk = (X ++ ((B1 ++ x :: A3) ++ (Y ++ ((A1 ++ y :: B3) ++ Z)))).toArray := ⟨_, rfl⟩
      have hds : dk.size = len := by
        rw [hdk, List.size_toArray, ← HL.out, HP.out.1, HP.out.2.1]
        simp only [List.length_append, List.length_cons]
        have := HP.out.2.2.1
        have := HP.out.2.2.2
        omega
      have e1 : (X ++ ((B1 ++ x :: A3) ++ (Y ++ ((A1 ++ y :: B3) ++ Z)))) = (X ++ B1) ++ x :: ((A3 ++ (Y ++ A1)) ++ y :: (B3 ++ Z)) := by simp
      have hl3 : A3.length + i + 1 = n := by
        have h1 := HP.out.1; have h2 := HP.out.2.2.1; have h3 := HA.out; rw [h1, List.length_append, List.length_cons] at h3; omega
      have hsw : Hid (swp dk (a + i) (b + i) = (X ++ (((B1 ++ [y]) ++ A3) ++ (Y ++ (((A1 ++ [x]) ++ B3) ++ Z)))).toArray) := by
        refine Lib.hid ?_
        rw [hdk, e1, swp_list (X ++ B1) (A3 ++ (Y ++ A1)) (B3 ++ Z) x y (a + i) (b + i) (by rw [List.length_append, HX.out, HP.out.2.2.2]) (by
          have := HX.out; have := HY.out; have := HP.out.2.2.1; have := HP.out.2.2.2
          simp only [List.length_append]; omega)]
        congr 1
        simp
      have HDK : Hid _ := Lib.hid hdk
      have S1' : Aside (SWK enc k w0 blk off dk wr) := by rw [hdk]; exact S1
      clear S1 hdk e1
      go_wp2_with fail
      have ea : ((a : Int) + (i : Int)).toNat = a + i := by omega
      have pa : (0 : Int) ≤ (a : Int) + (i : Int) := by omega
      have ba : (a : Int) + (i : Int) < (len : Int) := by omega
      have ra : IntKind.i64.wrap ((a : Int) + (i : Int)) = (a : Int) + (i : Int) := by rw [IntKind.wrap_i64]; omega
      have ec : ((b : Int) + (i : Int)).toNat = b + i := by omega
      have pc : (0 : Int) ≤ (b : Int) + (i : Int) := by omega
      have bc : (b : Int) + (i : Int) < (len : Int) := by omega
      have rc : IntKind.i64.wrap ((b : Int) + (i : Int)) = (b : Int) + (i : Int) := by rw [IntKind.wrap_i64]; omega
      have S2 : Aside (SWK enc k w0 blk off (swp dk (a + i) (b + i)) ((wr.drew.setCells blk (off + (a + i) * k) (enc dk[b + i]!)).setCells blk (off + (b + i) * k) (enc dk[a + i]!))) := S1'.out.swapped R (a + i) (b + i) (by omega) (by omega)
      have hds2 : dk.size = d0.size := by rw [hds, HS.out]
      have l1 := S1'.out.ld1 R hds2 P (a + i) (by omega)
      have l2 := S1'.out.ld1 R hds2 P (b + i) (by omega)
      have s1 := S1'.out.st1 R hds2 P (a + i) (by omega) dk[b + i]!
      have s2 := S1'.out.st2 R hds2 P (a + i) (b + i) (by omega) (by omega) dk[b + i]! dk[a + i]!
      have n1 : (enc dk[a + i]!).length = k := R.hk _
      have n2 : (enc dk[b + i]!).length = k := R.hk _
      generalize enc dk[a + i]! = cI at S2 l1 s2 n1
      generalize enc dk[b + i]! = cJ at S2 l2 s1 s2 n2
      have HDS := Lib.hid hds
      clear S1' hds hds2
      go_wp2_with fail
      go_big_region_o
      clear l1 l2 s1 s2
      generalize (wr.drew.setCells blk (off + (a + i) * k) cJ).setCells blk (off + (b + i) * k) cI = w2 at S2 ⊢
      go_wp2
      go_roundg (n - (i + 1))
      case measure => omega
      case rel =>
        refine ⟨i + 1, A1 ++ [x], A3, B1 ++ [y], B3, by go_num, by omega, Nat.le_refl _, Lib.hid ⟨by rw [HP.out.1]; simp, by rw [HP.out.2.1]; simp, by rw [List.length_append, HP.out.2.2.1]; rfl, by rw [List.length_append, HP.out.2.2.2]; rfl⟩, ?_⟩
        rw [hsw.out] at S2
        exact S2
    · go_wp2
      go_end0
      refine ⟨rfl, ?_⟩
      have hin : i = n := by omega
      have h2 : A2 = [] := List.eq_nil_of_length_eq_zero (by have h1 := HP.out.1; have h2 := HP.out.2.2.1; have h3 := HA.out; rw [h1, List.length_append] at h3; omega)
      have h3 : B2 = [] := List.eq_nil_of_length_eq_zero (by have h1 := HP.out.2.1; have h2 := HP.out.2.2.2; have h3 := HB.out; rw [h1, List.length_append] at h3; omega)
      have S3 := S1.out
      have e1 := HP.out.1
      have e2 := HP.out.2.1
      rw [h2, List.append_nil] at e1
      rw [h3, List.append_nil] at e2
      rw [h2, h3, List.append_nil, List.append_nil] at S3
      rw [e1, e2]
      exact S3
end Go.Proofs.Ytafenlacacghoaa
