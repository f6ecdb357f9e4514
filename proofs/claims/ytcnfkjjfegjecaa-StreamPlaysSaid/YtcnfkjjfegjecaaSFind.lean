/- The document's New, Lacks, find. -/
import Derived.Test.YtcnfkjjfegjecaaSRef
set_option linter.unusedVariables false
set_option linter.unusedSimpArgs false
namespace Go.Proofs.Ytcnfkjjfegjecaa
open Go.RowKit Go.Sort Go.Maps

/-- A row of messages whose numbers fit. -/
def Fits (l : List Mg) : Prop := ∀ m ∈ l, 0 ≤ m.q ∧ m.q < 4294967296
set_option maxHeartbeats 4000000 in
set_option maxRecDepth 100000 in
theorem rfind {w : World} {F : Nat → Prop} {ao : Option Addr} {l : List Mg} (h : LikeAt w F ao l) (hf : Fits l) (hn : l.length ≤ 100000) (sz : Int) (c : Int) (cap n : Nat) (hn4 : n < 4294967296) :
    Calls Try.prog 23 #[.agg #[.int .i64 sz, .int .u32 c, .slice ao l.length cap], .int .u32 (n : Int)] w fun e w' => e = .returned (.int .i64 (idxI l n)) ∧ Grw w w' := by
  have HL := Lib.hid h
  have HF := Lib.hid hf
  have HI : Hid (∀ i : Nat, (∀ j : Nat, j < i → ∀ m, l[j]? = some m → sqG m ≠ n) → ∀ m, l[i]? = some m → sqG m = n → idxI l n = (i : Int)) := Lib.hid fun i hb m hm e => by
    obtain ⟨hi, rfl⟩ := List.getElem?_eq_some_iff.1 hm
    have : idxS l n = some i := List.findIdx?_eq_some_iff_getElem.2 ⟨hi, by simpa using e, fun j hj => by simpa using hb j hj _ (List.getElem?_eq_getElem (by omega))⟩
    unfold idxI
    rw [this]
  have HJ : Hid ((∀ (j : Nat) (m : Mg), l[j]? = some m → sqG m ≠ n) → idxI l n = -1) := Lib.hid fun hb => by
    have : idxS l n = none := by
      rw [idxS_none, getS_none]
      intro m hm
      obtain ⟨j, hj⟩ := List.getElem?_of_mem hm
      exact hb j m hj
    unfold idxI
    rw [this]
  generalize idxI l n = r at *
  clear h hf
  obtain ⟨len, hlen⟩ : ∃ len, len = l.length := ⟨_, rfl⟩
  rw [← hlen] at hn ⊢
  have HN := Lib.hid hlen
  clear hlen
  go_enter Try.func23, Try.ntmps23
  go_wp2
  have HG := Lib.hid (show Grw w (w.alloc (.cells #[.int .i64 sz, .int .u32 c, .slice ao len cap] 29)) from (Grw.refl w).alloc _)
  have HH := Lib.hid (HL.out.below HG.out.below)
  have c2 : (w.alloc (.cells #[.int .i64 sz, .int .u32 c, .slice ao len cap] 29)).cell? ⟨w.heap.size, 2, none⟩ = some (.slice ao len cap) := by simp
  generalize (w.alloc (.cells #[.int .i64 sz, .int .u32 c, .slice ao len cap] 29)) = w1 at *
  clear HL
  go_loopw [5] (fun si wr => ∃ i : Nat, i ≤ len ∧ si = .int .i64 i ∧ wr = w1 ∧ Hid (∀ j : Nat, j < i → ∀ m, l[j]? = some m → sqG m ≠ n)) (fun si _ => len - (intOf si).toNat)
  case atStart => exact ⟨0, Nat.zero_le _, rfl, rfl, Lib.hid fun j hj => absurd hj (Nat.not_lt_zero _)⟩
  case round =>
    obtain ⟨i, hi, rfl, rfl, HB⟩ := hrel
    by_cases hil : i < len
    · obtain ⟨m, hm⟩ : ∃ m, l[i]? = some m := ⟨_, List.getElem?_eq_getElem (by rw [← HN.out]; exact hil)⟩
      obtain ⟨ka, o, x, rfl, hka, hlx, hdx, hcx⟩ := HH.out.elem hm
      obtain ⟨hq0, hq1⟩ := HF.out m (List.mem_of_getElem? hm)
      obtain ⟨q, hq⟩ : ∃ q : Nat, m.q = (q : Int) := ⟨m.q.toNat, by omega⟩
      have hsq : sqG m = q := by unfold sqG; rw [hq]; simp
      have c1 := hcx 1 _ rfl
      rw [hlx.q, hq] at c1
      have HM := Lib.hid (show l[i]? = some m ∧ sqG m = q from ⟨hm, hsq⟩)
      clear hm hcx hdx hlx hq hsq hq0 hq1
      by_cases he : q = n
      · subst he
        have HR := Lib.hid (HI.out i HB.out m HM.out.1 HM.out.2)
        go_wp2_with fail
        go_ret
        exact ⟨by rw [HR.out]; rfl, HG.out⟩
      · have hne : ((q : Int) == (n : Int)) = false := by simp; omega
        have HE := Lib.hid he
        clear he
        go_wp2_with fail
        go_roundw
        case rel => exact ⟨i + 1, by omega, by go_num, by first | rfl | trivial, Lib.hid fun j hj m2 hm2 => by
          by_cases e : j < i
          · exact HB.out j e m2 hm2
          · have e2 : j = i := by omega
            subst e2
            rw [HM.out.1] at hm2
            injection hm2 with hm2
            rw [← hm2, HM.out.2]
            exact HE.out⟩
        case measure => simp [intOf]; omega
    · have HR := Lib.hid (HJ.out fun j m hm => by
        have := (List.getElem?_eq_some_iff.1 hm).1
        exact HB.out j (by have := HN.out; omega) m hm)
      go_wp2_with fail
      go_ret
      exact ⟨by rw [HR.out]; rfl, HG.out⟩
set_option maxHeartbeats 1000000 in
theorem rlacks (sz : Int) (c u : Nat) (v : Value) (w : World) (hc : c < 4294967295) : Calls Try.prog 14 #[.agg #[.int .i64 sz, .int .u32 (c : Int), v], .int .u32 (u : Int)] w fun e w' => e = .returned (.tuple #[.int .u32 (lackN c u : Int), .bool (decide (c < u))]) ∧ Grw w w' := by
  by_cases h : c < u
  · have hr : lackN c u = c + 1 := if_pos h
    have hd : decide (c < u) = true := decide_eq_true h
    rw [hr, hd]
    clear hr hd
    have hz : ((c : Int) < (u : Int)) := by omega
    go_enter Try.func14, Try.ntmps14
    go_wp2
    go_ret2
    exact ⟨by first | rfl | (congr; omega), (Grw.refl _).alloc _⟩
  · have hr : lackN c u = 0 := if_neg h
    have hd : decide (c < u) = false := decide_eq_false h
    rw [hr, hd]
    clear hr hd
    have hz : ¬ ((c : Int) < (u : Int)) := by omega
    go_enter Try.func14, Try.ntmps14
    go_wp2
    go_ret2
    exact ⟨rfl, (Grw.refl _).alloc _⟩
set_option maxHeartbeats 2000000 in
theorem rnew (n : Int) (w : World) : Calls Try.prog 10 #[.int .i64 n] w fun e w' => e = .returned (.agg #[.int .i64 (szN n : Int), .int .u32 0, .slice none 0 0]) ∧ Below w.heap.size w w' := by
  obtain ⟨z, hz⟩ : ∃ z : Nat, z = szN n := ⟨_, rfl⟩
  rw [← hz]
  have hn : szN n = (if n < 1 then 1 else if 64 < n then 64 else n).toNat := rfl
  rw [← hz] at hn
  have R0 : RsB (w.alloc (.cells #[.int .i64 0, .int .u32 0, .slice none 0 0] 29)) w.heap.size 0 0 (.slice none 0 0) := RsB.new w 0 0 _
  have HB := Lib.hid (show Below w.heap.size w ((w.alloc (.cells #[.int .i64 0, .int .u32 0, .slice none 0 0] 29)).setRow w.heap.size #[.int .i64 (z : Int), .int .u32 0, .slice none 0 0]) from belowRow10 ((Grw.refl w).alloc _).below _ (Nat.le_refl _) _)
  by_cases k1 : n < 1
  · rw [if_pos k1] at hn
    obtain rfl : z = 1 := by omega
    clear hn hz
    go_enter Try.func10, Try.ntmps10
    go_wp2_with (refine store_rs rfl (.tmp 2) (.tmp 8) rfl w.heap.size 1 0 none 0 0 rfl rfl R0 ?_)
    (try simp only [Exit.inBlock, Exit.then])
    exact bodyPost_ret (results_rs rfl _ _ w.heap.size rfl (R0.put 1 0 _)) rfl ⟨rfl, HB.out⟩
  · rw [if_neg k1] at hn
    by_cases k2 : 64 < n
    · rw [if_pos k2] at hn
      obtain rfl : z = 64 := by omega
      clear hn hz
      go_enter Try.func10, Try.ntmps10
      go_wp2_with (refine store_rs rfl (.tmp 2) (.tmp 8) rfl w.heap.size 64 0 none 0 0 rfl rfl R0 ?_)
      (try simp only [Exit.inBlock, Exit.then])
      exact bodyPost_ret (results_rs rfl _ _ w.heap.size rfl (R0.put 64 0 _)) rfl ⟨rfl, HB.out⟩
    · rw [if_neg k2] at hn
      obtain rfl : n = (z : Int) := by omega
      clear hn hz
      go_enter Try.func10, Try.ntmps10
      go_wp2_with (refine store_rs rfl (.tmp 2) (.tmp 8) rfl w.heap.size (z : Int) 0 none 0 0 rfl rfl R0 ?_)
      (try simp only [Exit.inBlock, Exit.then])
      exact bodyPost_ret (results_rs rfl _ _ w.heap.size rfl (R0.put (z : Int) 0 _)) rfl ⟨rfl, HB.out⟩
end Go.Proofs.Ytcnfkjjfegjecaa
