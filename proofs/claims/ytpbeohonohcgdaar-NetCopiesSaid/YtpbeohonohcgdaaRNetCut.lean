/- New, Heal, Cut: the links. -/
import Derived.Test.YtpbeohonohcgdaaRNetFns
set_option linter.unusedVariables false
set_option linter.unusedSimpArgs false
namespace Go.Proofs.YtpbeohonohcgdaaR
open Go.RowKit Go.Sort

/-- The links as Cut leaves them. -/
def cutL (L : List Nat) (s : Nat) : List Nat := L.mapIdx fun p a => if s.testBit p then both a s else but a s
/-- .. once the first k are done. -/
def cutK (L : List Nat) (s k : Nat) : List Nat := (cutL L s).take k ++ L.drop k
theorem cutL_length (L : List Nat) (s : Nat) : (cutL L s).length = L.length := by simp [cutL]
theorem cutK_length (L : List Nat) (s k : Nat) (h : k ≤ L.length) : (cutK L s k).length = L.length := by
  unfold cutK; rw [List.length_append, List.length_take, cutL_length, List.length_drop]; omega
theorem cutK_at (L : List Nat) (s k : Nat) (h : k < L.length) : (cutK L s k)[k]? = some L[k] := by
  unfold cutK
  rw [List.getElem?_append_right (by rw [List.length_take]; omega), List.length_take, cutL_length, Nat.min_eq_left (by omega), Nat.sub_self, List.getElem?_drop, Nat.add_zero, List.getElem?_eq_getElem h]
theorem cutL_at (L : List Nat) (s k : Nat) (h : k < L.length) : (cutL L s)[k]? = some (if s.testBit k then both L[k] s else but L[k] s) := by
  unfold cutL; rw [List.getElem?_mapIdx, List.getElem?_eq_getElem h]; rfl
theorem cutK_next (L : List Nat) (s k : Nat) (h : k < L.length) (x : Nat) (hx : (if s.testBit k then both L[k] s else but L[k] s) = x) : (cutK L s k).set k x = cutK L s (k + 1) := by
  apply List.ext_getElem?
  intro i
  have hl := cutK_length L s k (by omega)
  have hl2 := cutL_length L s
  rw [List.getElem?_set]
  by_cases e : k = i
  · subst e
    rw [if_pos rfl, if_pos (by omega)]
    unfold cutK
    rw [List.getElem?_append_left (by rw [List.length_take]; omega), List.getElem?_take, if_pos (by omega), cutL_at L s k h, hx]
  · rw [if_neg e]
    unfold cutK
    by_cases hi : i < k
    · rw [List.getElem?_append_left (by rw [List.length_take]; omega), List.getElem?_append_left (by rw [List.length_take]; omega), List.getElem?_take, List.getElem?_take, if_pos (by omega), if_pos (by omega)]
    · rw [List.getElem?_append_right (by rw [List.length_take]; omega), List.getElem?_append_right (by rw [List.length_take]; omega), List.length_take, List.length_take, List.getElem?_drop, List.getElem?_drop]
      congr 1; omega
theorem cutK_zero (L : List Nat) (s : Nat) : cutK L s 0 = L := by simp [cutK]
theorem cutK_all (L : List Nat) (s : Nat) : cutK L s L.length = cutL L s := by
  unfold cutK; rw [List.take_of_length_le (by rw [cutL_length]; exact Nat.le_refl _)]; simp
theorem cutL_lt {L : List Nat} (s : Nat) : ∀ a ∈ cutL L s, a < 18446744073709551616 := by
  intro a ha
  unfold cutL at ha
  obtain ⟨i, hi, rfl⟩ := List.mem_mapIdx.1 ha
  split
  · exact both_lt _ _
  · exact but_lt _ _
theorem cutK_lt {L : List Nat} (s k : Nat) (h : ∀ a ∈ L, a < 18446744073709551616) : ∀ a ∈ cutK L s k, a < 18446744073709551616 := by
  intro a ha
  unfold cutK at ha
  rcases List.mem_append.1 ha with h1 | h1
  · exact cutL_lt s a (List.mem_of_mem_take h1)
  · exact h a (List.mem_of_mem_drop h1)
/-- The net's cells once a link is set. -/
theorem cells_link (N : Nt) (v : Value) (p x : Nat) (hp : p < N.links.length) : (N.cells v).toArray.setIfInBounds (1 + p) (.int .u64 (x : Int)) = (({ N with links := N.links.set p x } : Nt).cells v).toArray := by
  rw [List.setIfInBounds_toArray]
  congr 1
  unfold Nt.cells
  rw [Nat.add_comm, List.set_cons_succ, List.set_append_left _ _ (by simp [cellsU]; exact hp)]
  congr 2
  simp [cellsU, List.map_set]

/-- The net amid turning its links: only its own block is another one. -/
structure AtLinks (w0 w : World) (g B : Nat) (N : Nt) (ao : Option Addr) (cap : Nat) (L : List Nat) : Prop where
  at_ : NetAt w g B { N with links := L } ao cap
  os : w.os = w0.os
  tape : w.tape = w0.tape
  output : w.output = w0.output
  size : w0.heap.size ≤ w.heap.size
  block : ∀ k, k < w0.heap.size → k ≠ g → w.heap[k]? = w0.heap[k]?
theorem AtLinks.moved {w0 w : World} {g B : Nat} {N : Nt} {ao : Option Addr} {cap : Nat} {L : List Nat} (h : AtLinks w0 w g B N ao cap L) : Moved w0 w g ao ao :=
  ⟨h.os, h.tape, h.output, h.size, fun k hk hg _ => h.block k hk hg, fun a e => .inl ⟨a, e, rfl⟩⟩
theorem AtLinks.set {w0 w : World} {g B : Nat} {N : Nt} {ao : Option Addr} {cap : Nat} {L : List Nat} (h : AtLinks w0 w g B N ao cap L) (n p x : Nat) (hp : p < 64) (hx : x < 18446744073709551616) :
    AtLinks w0 ((w.drewN n).setCell ⟨g, 1 + p, none⟩ (.int .u64 (x : Int))) g B N ao cap (L.set p x) := by
  have hl : L.length = 64 := h.at_.len
  have hd := h.at_.drewN n
  have ho := hd.own.set (1 + p) (.int .u64 (x : Int))
  rw [cells_link _ _ p x (by show p < L.length; omega)] at ho
  have hb : ∀ k, k ≠ g → ((w.drewN n).setCell ⟨g, 1 + p, none⟩ (.int .u64 (x : Int))).heap[k]? = w.heap[k]? := fun k hk => heap_setCell_other (w.drewN n) _ _ _ (by exact hk)
  refine ⟨hd.linked (L.set p x) (by rw [List.length_set]; exact hl) (fun a ha => ?_) ho (fun k _ hk => hb k hk), h.os, h.tape, h.output, by simp only [World.setCell, Array.size_modify]; exact h.size, fun k hk hg => (hb k hg).trans (h.block k hk hg)⟩
  rcases List.mem_or_eq_of_mem_set ha with h1 | rfl
  · exact h.at_.lk a h1
  · exact hx

set_option maxHeartbeats 2000000 in
theorem ncut {w : World} {g B : Nat} {N : Nt} {ao : Option Addr} {cap : Nat} (h : NetAt w g B N ao cap) (s : Nat) (hs : s < 18446744073709551616) :
    Calls Try.prog 15 #[.pointer (some ⟨g, 0, none⟩), .int .u64 (s : Nat)] w fun e w' => e = .returned (.tuple #[]) ∧ NetAt w' g B { N with links := cutL N.links s } ao cap ∧ Moved w w' g ao ao := by
  have A0 : AtLinks w w g B N ao cap (cutK N.links s 0) := ⟨by rw [cutK_zero]; exact h, rfl, rfl, rfl, Nat.le_refl _, fun _ _ _ => rfl⟩
  have hlen := h.len
  have hlk := h.lk
  clear h
  go_enter Try.func15, Try.ntmps15
  go_wp2
  go_loopw [5] (fun i w' => ∃ k : Nat, k ≤ 64 ∧ i = .int .i64 k ∧ AtLinks w w' g B N ao cap (cutK N.links s k)) (fun i _ => 64 - (intOf i).toNat)
  case atStart => exact ⟨0, by omega, rfl, A0⟩
  case round =>
    obtain ⟨k, hk, rfl, A⟩ := hrel
    try clear A0
    by_cases hlt : k < 64
    · have hkl : k < (cutK N.links s k).length := by rw [cutK_length _ _ _ (by omega)]; omega
      have cl := A.at_.link k hlt
      have hv : (cutK N.links s k)[k] = N.links[k] := by have := cutK_at N.links s k (by omega); rw [List.getElem?_eq_getElem hkl] at this; injection this
      rw [hv] at cl
      have hla := hlk _ (List.getElem_mem (show k < N.links.length by omega))
      have HN := Lib.hid (cutK_next N.links s k (by omega))
      have fr := A.at_.free (1 + k)
      generalize N.links[k] = a at *
      have M := has_any s (k : Int) wr hs (by omega) (by omega)
      rw [mem_nat s k hlt] at M
      clear hv hkl
      cases hb : s.testBit k
      · rw [hb] at M
        have HX := Lib.hid (HN.out (but a s) (by rw [hb]; rfl))
        have hxl := but_lt a s
        clear HN hb hlk
        go_wp2_with (first | (go_at_call 16; refine M.mono ?_; rintro e w' ⟨rfl, rfl⟩) | (go_region_with (go_at_call 28; refine (but_any a s _ hla hs).mono ?_; rintro e w' ⟨rfl, rfl⟩)))
        all_goals
          go_roundw
          case rel => exact ⟨k + 1, by omega, by go_num, by rw [← HX.out]; exact A.set _ k _ hlt hxl⟩
          case measure => simp [intOf]; omega
      · rw [hb] at M
        have HX := Lib.hid (HN.out (both a s) (by rw [hb]; rfl))
        have hxl := both_lt a s
        clear HN hb hlk
        go_wp2_with (first | (go_at_call 16; refine M.mono ?_; rintro e w' ⟨rfl, rfl⟩) | (go_region_with (go_at_call 27; refine (both_any a s _ hla hs).mono ?_; rintro e w' ⟨rfl, rfl⟩)))
        all_goals
          go_roundw
          case rel => exact ⟨k + 1, by omega, by go_num, by rw [← HX.out]; exact A.set _ k _ hlt hxl⟩
          case measure => simp [intOf]; omega
    · obtain rfl : k = 64 := by omega
      rw [← hlen, cutK_all] at A
      have P := Lib.hid (show NetAt wr g B { N with links := cutL N.links s } ao cap ∧ Moved w wr g ao ao from ⟨A.at_, A.moved⟩)
      clear A hlen hlk
      go_wp2
      go_end0
      exact ⟨rfl, P.out⟩

/-- The links as Heal leaves them: of the first k of the list l. -/
def healK (P : Nat) (L l : List Nat) (k : Nat) : List Nat := (l.take k).foldl (fun M p => M.set p P) L
def healL (P : Nat) (L : List Nat) : List Nat := (lst P).foldl (fun M p => M.set p P) L
theorem foldl_set_length (P : Nat) : ∀ (l L : List Nat), (l.foldl (fun M p => M.set p P) L).length = L.length
  | [], L => rfl
  | p :: r, L => by rw [List.foldl_cons, foldl_set_length P r, List.length_set]
theorem healK_length (P : Nat) (L l : List Nat) (k : Nat) : (healK P L l k).length = L.length := foldl_set_length P _ _
theorem healK_zero (P : Nat) (L l : List Nat) : healK P L l 0 = L := rfl
theorem healK_next (P : Nat) (L l : List Nat) (k : Nat) (h : k < l.length) : healK P L l (k + 1) = (healK P L l k).set l[k] P := by
  unfold healK
  rw [List.take_succ_eq_append_getElem h, List.foldl_append]; rfl
theorem healK_all (P : Nat) (L : List Nat) : healK P L (lst P) (card P) = healL P L := by
  unfold healK healL; rw [List.take_of_length_le (by rw [lst_length]; exact Nat.le_refl _)]
theorem foldl_set_at (P : Nat) (i : Nat) : ∀ (l L : List Nat), i < L.length → (l.foldl (fun M p => M.set p P) L)[i]? = if i ∈ l then some P else L[i]?
  | [], L, _ => by simp
  | p :: r, L, h => by
    rw [List.foldl_cons, foldl_set_at P i r _ (by rw [List.length_set]; exact h)]
    by_cases hr : i ∈ r
    · rw [if_pos hr, if_pos (List.mem_cons_of_mem _ hr)]
    · rw [if_neg hr, List.getElem?_set]
      by_cases e : p = i
      · rw [if_pos e, if_pos (by omega), if_pos (by rw [e]; exact List.mem_cons_self)]
      · rw [if_neg e, if_neg (by intro hc; rcases List.mem_cons.1 hc with h1 | h1; exact e h1.symm; exact hr h1)]
theorem healL_at (P : Nat) (L : List Nat) (i : Nat) (h : i < L.length) (h6 : i < 64) : (healL P L)[i]? = if P.testBit i then some P else L[i]? := by
  unfold healL
  rw [foldl_set_at P i _ _ h]
  cases hb : P.testBit i
  · rw [if_neg (by rw [lst_mem]; simp [hb])]; rfl
  · rw [if_pos (by rw [lst_mem]; exact ⟨h6, hb⟩)]; rfl

theorem InI.drewN {w : World} {ao : Option Addr} {len : Nat} {l : List Int} (h : InI w ao len l) (n : Nat) : InI (w.drewN n) ao len l := ⟨h.size, h.src, h.bd⟩
theorem InI.far {w : World} {b len : Nat} {l : List Int} (h : InI w (some ⟨b, 0, none⟩) len l) (a : Addr) (u : Value) (ha : some a.block ≠ some b) : InI (w.setCell a u) (some ⟨b, 0, none⟩) len l :=
  ⟨h.size, fun j v hj => by
    obtain ⟨ad, e, hc⟩ := h.src j v hj
    cases e
    refine ⟨_, rfl, ?_⟩
    rw [World.cell?_setCell_other _ _ _ _ (by intro e2; apply ha; rw [e2]; cases j <;> simp [Addr.add])]
    exact hc, h.bd⟩
set_option maxHeartbeats 2000000 in
theorem nheal {w : World} {g B : Nat} {N : Nt} {ao : Option Addr} {cap : Nat} (h : NetAt w g B N ao cap) :
    Calls Try.prog 17 #[.pointer (some ⟨g, 0, none⟩)] w fun e w' => e = .returned (.tuple #[]) ∧ NetAt w' g B { N with links := healL N.procs N.links } ao cap ∧ Moved w w' g ao ao := by
  have hpr := h.pr
  have c0 := h.procs
  have hcl := card_le N.procs
  have hll : (lst N.procs).length = card N.procs := lst_length N.procs
  have hm : ∀ (j : Nat) (hj : j < (lst N.procs).length), (lst N.procs)[j] < 64 := fun j hj => ((lst_mem _ _).1 (List.getElem_mem hj)).1
  have L0 := list_any N.procs w hpr
  have hglt := h.lt
  go_enter Try.func17, Try.ntmps17
  go_wp2_with (go_at_call 30; refine L0.mono ?_; rintro e w1 ⟨rfl, I, hB⟩)
  have A0 : AtLinks w w1 g B N ao cap (healK N.procs N.links (lst N.procs) 0) := ⟨by rw [healK_zero]; exact h.below hB, hB.os, hB.tape, hB.output, hB.size, fun k hk _ => hB.block k hk⟩
  have hb1 := hB.size
  have A1 := A0.at_.procs
  clear L0 hB c0 h A1
  go_loopw [10] (fun i w' => ∃ k : Nat, k ≤ card N.procs ∧ i = .int .i64 k ∧ InI w' (some ⟨w.heap.size, 0, none⟩) (card N.procs) (ints (lst N.procs)) ∧ AtLinks w w' g B N ao cap (healK N.procs N.links (lst N.procs) k)) (fun i _ => 64 - (intOf i).toNat)
  case atStart => exact ⟨0, by omega, rfl, I, A0⟩
  case round =>
    obtain ⟨k, hk, rfl, I, A⟩ := hrel
    by_cases hlt : k < card N.procs
    · have hkl : k < (lst N.procs).length := by omega
      have hm := hm k hkl
      have HN := Lib.hid (healK_next N.procs N.links (lst N.procs) k hkl)
      obtain ⟨ad, e1, c1⟩ := I.src k ((lst N.procs)[k] : Nat) (by simp [ints, hkl])
      cases e1
      rw [show (⟨w.heap.size, 0, none⟩ : Addr).add k = ⟨w.heap.size, k, none⟩ by cases k <;> simp [Addr.add]] at c1
      obtain ⟨old, cl⟩ : ∃ v, wr.cell? ⟨g, 1 + (lst N.procs)[k], none⟩ = some v := ⟨_, A.at_.link _ hm⟩
      have fr := A.at_.free (1 + (lst N.procs)[k])
      have c0 : wr.cell? ⟨g, 0, none⟩ = some (.int .u64 (N.procs : Nat)) := A.at_.procs
      have AA := Lib.hid (fun n => A.set n (lst N.procs)[k] N.procs hm hpr)
      have I2 := Lib.hid (fun n => (I.drewN n).far (⟨g, 1 + (lst N.procs)[k], none⟩) (.int .u64 (N.procs : Nat)) (by show some g ≠ some w.heap.size; intro e; injection e; omega))
      generalize (lst N.procs)[k] = p at *
      clear A I A0
      go_wp2_with (go_region)
      all_goals
        go_roundw
        case rel => exact ⟨k + 1, by omega, by go_num, I2.out _, by rw [HN.out]; exact AA.out _⟩
        case measure => simp [intOf]; omega
    · obtain rfl : k = card N.procs := by omega
      rw [healK_all] at A
      have P := Lib.hid (show NetAt wr g B { N with links := healL N.procs N.links } ao cap ∧ Moved w wr g ao ao from ⟨A.at_, A.moved⟩)
      clear A
      go_wp2
      go_end0
      exact ⟨rfl, P.out⟩
end Go.Proofs.YtpbeohonohcgdaaR
