/- slices.Delete of one datagram; Drop. -/
import Derived.Test.YtpbeohonohcgdaaRNetNew
import Derived.Deep.RegionLaw
import Derived.Lib.SliceRun
set_option linter.unusedVariables false
set_option linter.unusedSimpArgs false
namespace Go.Proofs.YtpbeohonohcgdaaR
open Go.RowKit Go.Sort

theorem flat_take {α : Type} (enc : α → List Value) (k : Nat) (hk : ∀ x, (enc x).length = k) (l : List α) (i : Nat) (hi : i ≤ l.length) : (flat enc l).take (i * k) = flat enc (l.take i) := by
  have hl : (flat enc (l.take i)).length = i * k := by rw [flat_length enc k hk, List.length_take, Nat.min_eq_left hi]
  conv => lhs; rw [← List.take_append_drop i l, flat_append]
  rw [← hl, List.take_left]

def zerosD : List Value := [.int .i64 0, .int .i64 0, .string { data := #[] }, .bool false]
theorem run_clear_dg (w : World) (ty : TypeId) (b o n c : Nat) (hn : n = 1) (hc : ∀ j, j < 4 → (w.cell? ⟨b, o + j, none⟩).isSome = true) (hf : ∀ j, j < 4 → w.frozen? ⟨b, o + j, none⟩ = false) :
    (Builtin.clear_ #[43] ty #[.slice (some ⟨b, o, none⟩) n c]).run Try.prog w = .ok (.tuple #[]) (w.setCells b o zerosD) := by
  subst hn
  have hv : ∀ w, (zeroValue 28).run Try.prog w = .ok zeroD w := fun w => by kernel_rfl
  have hzc : (Builtin.zeroCells zeroD.cells 1).toList = zerosD := by kernel_rfl
  have hst := run_storeCells_cells (P := Try.prog) b o zerosD 0 w (by simpa [zerosD] using hc) (by simpa [zerosD] using hf) (by intro v hv'; simp only [zerosD, List.mem_cons, List.not_mem_nil, or_false] at hv'; rcases hv' with rfl | rfl | rfl | rfl <;> rfl)
  simp only [Nat.add_zero] at hst
  simp [Builtin.clear_, run_underlying Try.underlying43, hv, hzc, hst]

theorem grown_tr {w w1 w2 : World} {o : Option Nat} (h : w.grownBy w1 o) (k : w1.grownBy w2 o) : w.grownBy w2 o :=
  ⟨k.os.trans h.os, k.tape.trans h.tape, k.output.trans h.output, Nat.le_trans h.size k.size, fun i hi hn => (k.block i (Nat.lt_of_lt_of_le hi h.size) hn).trans (h.block i hi hn)⟩
theorem grown_drw (w : World) (o : Option Nat) : w.grownBy w.drew o := ⟨rfl, rfl, rfl, Nat.le_refl _, fun _ _ _ => rfl⟩
theorem grown_cell (w : World) (b o : Nat) (v : Value) : w.grownBy (w.setCell ⟨b, o, none⟩ v) (some b) :=
  ⟨rfl, rfl, rfl, by simp [World.setCell], fun k hk hn => heap_setCell_other w _ _ v (by show k ≠ b; intro e; exact hn (by rw [e]))⟩
theorem grown_cells (b : Nat) : ∀ (vs : List Value) (o : Nat) (w : World), w.grownBy (w.setCells b o vs) (some b)
  | [], o, w => World.grownBy.refl w _
  | v :: r, o, w => grown_tr (grown_cell w b o v) (grown_cells b r (o + 1) _)
/-- A row with the one of the number i taken out. -/
theorem own_deleted {w : World} {B b n cap i j : Nat} {L : List Dg} (h : w.ownsRow B 28 4 (.slice (some ⟨b, 0, none⟩) n cap) n (flat encD L)) (hij : j = i + 1) (hj : j ≤ n) :
    ((w.setCells b (0 + i * 4) (flat encD (L.drop j))).setCells b ((i + (n - j)) * 4) zerosD).ownsRow B 28 4 (.slice (some ⟨b, 0, none⟩) (i + (n - j)) cap) (i + (n - j)) (flat encD (L.eraseIdx i)) ∧
    w.grownBy ((w.setCells b (0 + i * 4) (flat encD (L.drop j))).setCells b ((i + (n - j)) * 4) zerosD) (some b) ∧
    ∀ m, m < n * 4 → ((w.setCells b (0 + i * 4) (flat encD (L.drop j))).cell? ⟨b, m, none⟩).isSome = true ∧ (w.setCells b (0 + i * 4) (flat encD (L.drop j))).frozen? ⟨b, m, none⟩ = false := by
  have hL : L.length = n := by have := h.1; rw [flat_length encD 4 encD_length] at this; omega
  rcases h.2 with ⟨h', _⟩ | ⟨b', c, cur, h1, h2, h3, h4, h5, h6, h7⟩
  · cases h'
  injection h1 with e1 e2 e3
  injection e1 with e1
  injection e1 with e1
  subst e1 e3
  have hnl : (flat encD (L.drop j)).length = (n - j) * 4 := by rw [flat_length encD 4 encD_length, List.length_drop, hL]
  obtain ⟨cur1, k1, k2⟩ := heap_setCells (flat encD (L.drop j)) (0 + i * 4) w cur h3 (by rw [hnl, h6]; have := Nat.mul_le_mul_right 4 h4; omega)
  have hs1 : cur1.size = cur.size := by
    have := congrArg List.length k2
    simp only [List.length_append, List.length_take, List.length_drop, Array.length_toList, hnl] at this
    have := Nat.mul_le_mul_right 4 h4
    omega
  obtain ⟨cur2, k3, k4⟩ := heap_setCells zerosD ((i + (n - j)) * 4) _ cur1 k1 (by rw [hs1, h6]; have := Nat.mul_le_mul_right 4 h4; simp [zerosD]; omega)
  have hs2 : cur2.size = cur1.size := by
    have := congrArg List.length k4
    simp only [List.length_append, List.length_take, List.length_drop, Array.length_toList] at this
    have hz : zerosD.length = 4 := rfl
    have := Nat.mul_le_mul_right 4 h4
    omega
  have e0 : L.eraseIdx i = L.take i ++ L.drop j := by rw [hij, List.eraseIdx_eq_take_drop_succ]
  refine ⟨⟨?_, .inr ⟨b, cap, cur2, rfl, h2, k3, by omega, h5, by omega, ?_⟩⟩, ?_, ?_⟩
  · rw [e0, flat_length encD 4 encD_length, List.length_append, List.length_take, List.length_drop, hL, Nat.min_eq_left (by omega)]
  · rw [k4, List.append_assoc, List.take_append_of_le_length (by rw [List.length_take, Array.length_toList]; have := Nat.mul_le_mul_right 4 h4; omega), List.take_take, Nat.min_self, k2, e0, flat_append]
    have e1 : cur.toList.take (0 + i * 4) = flat encD (L.take i) := by
      rw [← flat_take encD 4 encD_length L i (by omega), ← h7, List.take_take, Nat.min_eq_left (by omega), Nat.zero_add]
    rw [e1, List.take_append_of_le_length (by rw [List.length_append, hnl, flat_length encD 4 encD_length, List.length_take]; omega), List.take_of_length_le (by rw [List.length_append, hnl, flat_length encD 4 encD_length, List.length_take]; omega)]
  · exact grown_tr (grown_cells b _ _ _) (grown_cells b _ _ _)
  · intro m hm
    have hm2 : m < cur1.size := by rw [hs1, h6]; have := Nat.mul_le_mul_right 4 h4; omega
    rw [cell_of_row _ _ _ _ _ _ k1, frozen_of_row _ b m cur1 _ k1, Array.getElem?_eq_getElem hm2]
    exact ⟨rfl, rfl⟩
set_option maxHeartbeats 4000000 in
set_option maxRecDepth 1000000 in
theorem delete_dg {w : World} {B b n cap i j : Nat} {L : List Dg} (h : w.ownsRow B 28 4 (.slice (some ⟨b, 0, none⟩) n cap) n (flat encD L)) (hij : j = i + 1) (hj : j ≤ n) (hn : n ≤ cap) (hm : cap ≤ maxLen) :
    Calls Try.prog 34 #[.slice (some ⟨b, 0, none⟩) n cap, .int .i64 (i : Nat), .int .i64 (j : Nat)] w fun e w' => e = .returned (.slice (some ⟨b, 0, none⟩) (i + (n - j)) cap) ∧
      w'.ownsRow B 28 4 (.slice (some ⟨b, 0, none⟩) (i + (n - j)) cap) (i + (n - j)) (flat encD (L.eraseIdx i)) ∧ w.grownBy w' (some b) := by
  obtain ⟨P1, P2, P3⟩ := own_deleted (w := w.drew) h hij hj
  have P2 := grown_tr (grown_drw w (some b)) P2
  have hL : L.length = n := by have := h.1; rw [flat_length encD 4 encD_length] at this; omega
  have hnl : (flat encD (L.drop j)).length = (n - j) * 4 := by rw [flat_length encD 4 encD_length, List.length_drop, hL]
  obtain ⟨i0, hi0, hz0, hz1, hz2⟩ := info_parts infoD
  obtain ⟨news, hnews⟩ : ∃ news, news = flat encD (L.drop j) := ⟨_, rfl⟩
  rw [← hnews] at P1 P2 P3 hnl
  have hget : ∀ t u, news[t]? = some u → w.drew.cell? ⟨b, j * 4 + t, none⟩ = some u := by
    intro t u hu
    have ht : t < (n - j) * 4 := by rw [← hnl]; exact (List.getElem?_eq_some_iff.1 hu).1
    have e : (flat encD L)[j * 4 + t]? = some u := by
      conv => lhs; rw [← List.take_append_drop j L, flat_append]
      have hl : (flat encD (L.take j)).length = j * 4 := by rw [flat_length encD 4 encD_length, List.length_take, Nat.min_eq_left (by omega)]
      rw [List.getElem?_append_right (by omega), hl, Nat.add_sub_cancel_left, ← hnews]; exact hu
    exact (h.cellAt (j * 4 + t) (by omega)).trans e
  obtain ⟨A, hA, hsrc⟩ : ∃ A : Addr, (if cap = j then some (⟨b, 0, none⟩ : Addr) else some ⟨b, j * 4, none⟩) = some A ∧ Hid (∀ t u, news[t]? = some u → w.drew.cell? (A.add t) = some u) := by
    by_cases hc : cap = j
    · refine ⟨⟨b, 0, none⟩, by simp [hc], fun t u hu => ?_⟩
      have h0 : news.length = 0 := by rw [hnl]; omega
      rw [List.length_eq_zero_iff.1 h0] at hu
      simp at hu
    · refine ⟨⟨b, j * 4, none⟩, by simp [hc], fun t u hu => ?_⟩
      rw [Addr.add_lit]
      exact hget t u hu
  have s1 : Hid (news.length = (n - j) * 4) := hnl
  have s2 : Hid (∀ u ∈ news, u.oneCell' = true) := by
    intro u hu
    rw [hnews] at hu
    exact flatD_one u hu
  have s3 : Hid (∀ t, t < news.length → (w.drew.cell? ⟨b, 0 + i * 4 + t, none⟩).isSome = true ∧ w.drew.frozen? ⟨b, 0 + i * 4 + t, none⟩ = false) := by
    intro t ht
    rw [hnl] at ht
    refine ⟨?_, h.frozenAt _⟩
    have := h.cellAt (0 + i * 4 + t) (by omega)
    have e : w.drew.cell? ⟨b, 0 + i * 4 + t, none⟩ = w.cell? ⟨b, 0 + i * 4 + t, none⟩ := rfl
    rw [e, this, List.getElem?_eq_getElem (by rw [flat_length encD 4 encD_length, hL]; omega)]
    rfl
  obtain ⟨W1, hW1⟩ : ∃ W1, W1 = w.drew.setCells b (0 + i * 4) news := ⟨_, rfl⟩
  rw [← hW1] at P1 P2 P3
  have hcl : ∀ ty, (Builtin.clear_ #[43] ty #[.slice (some ⟨b, (i + (n - j)) * 4, none⟩) (n - (i + (n - j))) (cap - (i + (n - j)))]).run Try.prog W1 = .ok (.tuple #[]) (W1.setCells b ((i + (n - j)) * 4) zerosD) :=
    fun ty => run_clear_dg W1 ty b _ _ _ (by omega) (fun t ht => (P3 _ (by omega)).1) (fun t ht => (P3 _ (by omega)).2)
  have hW : Hid (W1 = w.drew.setCells b (0 + i * 4) news) := hW1
  have Q1 := Lib.hid P1
  have Q2 := Lib.hid P2
  have hic : i ≤ cap := by omega
  have hjc : j ≤ cap := by omega
  have hlt : i < j := by omega
  clear hW1 P1 P2 P3 hget hnews hnl h hij hL
  unfold maxLen at hm
  go_enter Try.func34, Try.ntmps34
  go_wp2_with fail
  go_region_law (refine step_append_room rfl (.tmp 22) (.tmp 25) 43 rfl 28 i0 4 Try.underlying43 hi0 hz1 b 0 i cap (by simp [Act.eval, Act.put]) A (n - j) (cap - j) news (by simp [Act.eval, Act.put]) s1.out hsrc.out s2.out (by omega) s3.out ?_; rw [← hW.out])
  go_wp2
  go_ret
  exact ⟨rfl, Q1.out, Q2.out⟩
end Go.Proofs.YtpbeohonohcgdaaR
