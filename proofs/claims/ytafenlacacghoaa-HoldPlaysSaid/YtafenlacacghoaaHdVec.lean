/- Vector. -/
import Derived.Test.YtafenlacacghoaaHdFrom
import Derived.OwnWalk
import Derived.Laws.MakeOwn
set_option linter.unusedVariables false
set_option linter.unusedSimpArgs false
namespace Go.Proofs.Ytafenlacacghoaa
open Go.RowKit Go.Sort

theorem makesU12 (n : Nat) (hc : n ≤ 1048576) (W : World) :
    (Instr.makeSlice 35 (.int .i64 (n : Int)) (.int .i64 (n : Int))).run Try.prog W = .ok (.slice (some ⟨W.heap.size, 0, none⟩) n n) (W.alloc (.cells (List.replicate n (Value.int .u32 0)).toArray 23)) := by
  obtain ⟨i0, hi, hz0, hz1, hz2⟩ := info_parts info32s
  have h := run_make (P := Try.prog) W 35 23 i0 (.int .u32 0) Try.underlying35 hi hz0 .i64 .i64 (n : Int) (n : Int) (by omega) (by omega) (by rw [hz2]; omega) (by omega)
  have e : madeCells (Value.int .u32 0).cells ((n : Int).toNat * 1) = (List.replicate n (Value.int .u32 0)).toArray := by
    apply Array.ext'
    rw [Int.toNat_natCast, Nat.mul_one]
    exact toList_madeCells_one (.int .u32 0) n
  rw [hz1, e, Int.toNat_natCast] at h
  exact h
/-- How long a vector is. -/
def vecN (n : Int) : Nat := min (max n 0).toNat 64
/-- What Vector answers. -/
def VecSaid (w : World) (c : Nat) (f : Nat → Nat) (e : Ending) (w' : World) : Prop :=
  e = .returned (.slice (some ⟨w.heap.size, 0, none⟩) c c) ∧ (∀ j, j < c → w'.cell? ⟨w.heap.size, j, none⟩ = some (.int .u32 (f j : Int))) ∧ Below w.heap.size w w'
section
variable {w : World} {F : Nat → Prop} {g N : Nat} {lo : Nat → Nat} {sl : Nat → Sl} {X : Nat → List Mg}
set_option maxHeartbeats 4000000 in
theorem hvec (h : HAt w F g N lo sl X) (hN : N ≤ 1000) (n : Int) (n0 : -9223372036854775808 ≤ n) (n1 : n ≤ 9223372036854775807) :
    Calls Try.prog 25 #[.pointer (some ⟨g, 0, none⟩), .int .i64 n] w (VecSaid w (vecN n) (cntF lo X)) := by
  obtain ⟨c, hc⟩ : ∃ c, c = vecN n := ⟨_, rfl⟩
  rw [← hc]
  have hc64 : c ≤ 64 := by rw [hc]; unfold vecN; omega
  obtain ⟨mx, hmx⟩ : ∃ mx : Nat, mx = n.toNat := ⟨_, rfl⟩
  have hm1 : (if (0 : Int) > n then 0 else n) = (mx : Int) := by rw [hmx]; split <;> omega
  have hm2 : (if (64 : Int) < (mx : Int) then 64 else (mx : Int)) = (c : Int) := by rw [hc, hmx]; unfold vecN; split <;> omega
  have HM1 := Lib.hid hm1
  have HM2 := Lib.hid hm2
  have hmk := makesU12 c (by omega) w
  have hO := Own.new w 23 (List.replicate c (Value.int .u32 0)).toArray
  have HO := Lib.hid hO
  have HB0 := Lib.hid ((Grw.refl w).alloc (.cells (List.replicate c (Value.int .u32 0)).toArray 23)).below
  have HC0 := Lib.hid (List.length_replicate (n := c) (a := Value.int .u32 0))
  have HH := Lib.hid h
  generalize List.replicate c (Value.int .u32 0) = C at *
  clear hc hmx hm1 hm2 hO h
  go_enter Try.func25, Try.ntmps25
  go_wp2_with (first | (refine step_max2 rfl (.tmp 7) _ _ _ rfl .i64 _ _ (mx : Int) rfl rfl HM1.out ?_) | (refine step_min2 rfl (.tmp 8) _ _ _ rfl .i64 _ _ (c : Int) rfl rfl HM2.out ?_))
  generalize hw1 : w.alloc (.cells C.toArray 23) = w1 at *
  clear hw1 hmk
  go_loopw [13] (fun si wr => ∃ (k : Nat) (cs : List Value), k ≤ c ∧ si = .int .i64 k ∧ Hid (Own wr w.heap.size 23 cs.toArray ∧ cs.length = c ∧ (∀ j, j < k → cs[j]? = some (.int .u32 (cntF lo X j : Int))) ∧ Below w.heap.size w wr)) (fun si _ => c - (intOf si).toNat)
  case atStart => exact ⟨0, C, Nat.zero_le _, rfl, Lib.hid ⟨HO.out, HC0.out, fun j hj => by omega, HB0.out⟩⟩
  case round =>
    obtain ⟨k, cs, hk, rfl, HS⟩ := hrel
    by_cases hlt : k < c
    · obtain ⟨hOw, hcl, hcs, hB⟩ := HS.out
      have P := hcount_yes (HH.out.below hB) hN k (by omega)
      have hkc : k < cs.length := by omega
      have c1 : wr.cell? ⟨w.heap.size, k, none⟩ = some cs[k] := hOw.at_ k _ (by rw [List.getElem?_toArray, List.getElem?_eq_getElem hkc])
      have f1 := hOw.free k
      generalize cs[k] = u at c1
      have HN : Hid (Own (wr.setCell ⟨w.heap.size, k, none⟩ (.int .u32 (cntF lo X k : Int))) w.heap.size 23 (cs.set k (.int .u32 (cntF lo X k : Int))).toArray ∧ (cs.set k (.int .u32 (cntF lo X k : Int))).length = c ∧ (∀ j, j < k + 1 → (cs.set k (.int .u32 (cntF lo X k : Int)))[j]? = some (.int .u32 (cntF lo X j : Int))) ∧ Below w.heap.size w (wr.setCell ⟨w.heap.size, k, none⟩ (.int .u32 (cntF lo X k : Int)))) := by
        refine Lib.hid ⟨?_, by rw [List.length_set]; exact hcl, fun j hj => ?_, hB.setCell (Nat.le_refl _) _⟩
        · have := hOw.set k (.int .u32 (cntF lo X k : Int))
          rwa [List.setIfInBounds_toArray] at this
        · rw [List.getElem?_set]
          by_cases e : k = j
          · subst e; rw [if_pos rfl, if_pos hkc]
          · rw [if_neg e]; exact hcs j (by omega)
      clear hOw hcl hcs hB HS hkc
      generalize cntF lo X k = q at *
      go_wp2_with (go_at_call 18; refine P.mono ?_; rintro e w' ⟨rfl, rfl⟩)
      go_roundw
      case rel => exact ⟨k + 1, _, by omega, by go_num, HN⟩
      case measure => simp [intOf]; omega
    · have hs := HS.out
      go_wp2
      go_ret
      refine ⟨rfl, fun j hj => ?_, hs.2.2.2⟩
      exact hs.1.at_ j _ (by rw [List.getElem?_toArray]; exact hs.2.2.1 j (by omega))
end
end Go.Proofs.Ytafenlacacghoaa
