/- The contract of the program's own List: the members, rising, in new memory. -/
import Derived.Test.YtfocjcdfpnbkjaaZPops
import Derived.Test.YtfocjcdfpnbkjaaZOrdMath
import Derived.Test.YtfocjcdfpnbkjaaZHzCounts
set_option linter.unusedVariables false
set_option maxRecDepth 100000
set_option linter.unusedSimpArgs false
namespace Go.Proofs.Ytfocjcdfpnbkjaa
open Go.RowKit

theorem Try.info64 : (Try.prog.info? 3).map (fun i => (i.zero, i.size, i.bytes)) = some (some (.int .i64 0), 1, 8) := by kernel_rfl

/-- 'make([]int, n, c)': a new row of zeros. -/
theorem makesI (n c : Nat) (hnc : n ≤ c) (hc : c ≤ 1048576) (W : World) :
    (Instr.makeSlice 181 (.int .i64 (n : Int)) (.int .i64 (c : Int))).run Try.prog W = .ok (.slice (some ⟨W.heap.size, 0, none⟩) n c) (W.alloc (.cells (List.replicate c (Value.int .i64 0)).toArray 3)) := by
  obtain ⟨i0, hi, hz0, hz1, hz2⟩ := info_parts Try.info64
  have h := run_make (P := Try.prog) W 181 3 i0 (.int .i64 0) Try.underlying181 hi hz0 .i64 .i64 (n : Int) (c : Int) (by omega) (by omega) (by rw [hz2]; omega) (by omega)
  have e : madeCells (Value.int .i64 0).cells ((c : Int).toNat * 1) = (List.replicate c (Value.int .i64 0)).toArray := by
    apply Array.ext'
    rw [Int.toNat_natCast, Nat.mul_one]
    exact toList_madeCells_one (.int .i64 0) c
  rw [hz1, e, Int.toNat_natCast, Int.toNat_natCast] at h
  exact h

/-- The first members, up to k. -/
def flt (a k : Nat) : List Nat := (List.range k).filter a.testBit
theorem flt_all (a : Nat) : flt a 64 = lst a := rfl
theorem flt_le (a k : Nat) (h : k ≤ 64) : (flt a k).length ≤ card a := by
  rw [← lst_length]
  unfold flt lst
  rw [show (64 : Nat) = k + (64 - k) by omega, List.range_add, List.filter_append, List.length_append]
  omega
theorem flt_yes (a k : Nat) (h : a.testBit k = true) : flt a (k + 1) = flt a k ++ [k] := by
  unfold flt; rw [List.range_succ, List.filter_append]; simp [h]
theorem flt_no (a k : Nat) (h : a.testBit k = false) : flt a (k + 1) = flt a k := by
  unfold flt; rw [List.range_succ, List.filter_append]; simp [h]
/-- Numbers as the cells that hold them. -/
def cellsI (l : List Nat) : List Value := l.map fun (p : Nat) => Value.int .i64 (p : Int)

/-- A row of the call's own reads as its numbers. -/
theorem InI.own {w : World} {base g n cap : Nat} {L : List Nat} (h : w.ownsRow base 3 1 (.slice (some ⟨g, 0, none⟩) n cap) n (cellsI L)) (hL : ∀ p ∈ L, p < 64) : InI w (some ⟨g, 0, none⟩) n (ints L) := by
  have hn : n = L.length := by have := h.1; simp [cellsI] at this; omega
  refine ⟨by simp [ints, hn], fun j v hj => ⟨_, rfl, ?_⟩, fun v hv => ?_⟩
  · have hlt : j < L.length := by
      have := (List.getElem?_eq_some_iff.1 hj).1
      simpa [ints] using this
    rw [show (⟨g, 0, none⟩ : Addr).add j = ⟨g, j, none⟩ by cases j <;> simp [Addr.add], h.cellAt j (by omega)]
    rw [ints, List.getElem?_map, List.getElem?_eq_getElem hlt] at hj
    rw [cellsI, List.getElem?_map, List.getElem?_eq_getElem hlt]
    cases hj
    rfl
  · obtain ⟨p, hp, rfl⟩ := List.mem_map.1 hv
    have := hL p hp
    simp only [Int.ofNat_eq_natCast]
    omega
theorem flt_lt (a k : Nat) (h : k ≤ 64) : ∀ p ∈ flt a k, p < 64 := fun p hp => by
  unfold flt at hp
  have := (List.mem_filter.1 hp).1
  have : p < k := by simpa using this
  omega

set_option maxHeartbeats 1000000 in
theorem list_any (a : Nat) (w : World) (ha : a < 18446744073709551616) :
    Calls Try.prog 131 #[.int .u64 a] w fun e w' =>
      e = .returned (.slice (some ⟨w.heap.size, 0, none⟩) (card a) (card a)) ∧ InI w' (some ⟨w.heap.size, 0, none⟩) (card a) (ints (lst a)) ∧ Below w.heap.size w w' := by
  obtain ⟨i0, hi, hz0, hz1, hz2⟩ := info_parts Try.info64
  have hcl := card_le a
  have HF := Lib.hid (flt_le a)
  have hln : (lst a).length = card a := lst_length a
  have HLN := Lib.hid hln
  clear hln
  obtain ⟨n, hn⟩ : ∃ n, n = card a := ⟨_, rfl⟩
  rw [← hn]
  have HN := Lib.hid hn
  rw [← hn] at hcl
  obtain ⟨C, hC⟩ : ∃ C, C = List.replicate n (Value.int .i64 0) := ⟨_, rfl⟩
  have hmk : ∀ W, (Instr.makeSlice 181 (.int .i64 0) (.int .i64 (n : Int))).run Try.prog W = .ok (.slice (some ⟨W.heap.size, 0, none⟩) 0 n) (W.alloc (.cells C.toArray 3)) := fun W => by
    rw [hC]; exact makesI 0 n (by omega) (by omega) W
  have hCs : C.length = n := by rw [hC, List.length_replicate]
  have HCs := Lib.hid hCs
  clear hC hCs hn
  go_enter Try.func131, Try.ntmps131
  go_wp2_with fail
  refine (size_any _ _ ha).mono ?_
  rintro e w' ⟨rfl, rfl⟩
  rw [← HN.out]
  go_wp2
  have hown : (w.alloc (.cells C.toArray 3)).ownsRow w.heap.size 3 1 (.slice (some ⟨w.heap.size, 0, none⟩) 0 n) 0 (cellsI (flt a 0)) := by
    refine ⟨by simp [cellsI, flt], .inr ⟨_, _, _, rfl, Nat.le_refl _, heap_alloc_new _ _, by omega, by unfold maxLen; omega, ?_, ?_⟩⟩
    · rw [List.size_toArray, HCs.out]; omega
    · simp [cellsI, flt]
  go_loopw [3, 8] (fun out si wr => ∃ k : Nat, k ≤ 64 ∧ si = .int .i64 k ∧ out = .slice (some ⟨w.heap.size, 0, none⟩) (flt a k).length n ∧
      wr.ownsRow w.heap.size 3 1 (.slice (some ⟨w.heap.size, 0, none⟩) (flt a k).length n) (flt a k).length (cellsI (flt a k)) ∧ Below w.heap.size w wr)
    (fun _ si _ => 64 - (intOf si).toNat)
  case atStart => exact ⟨0, Nat.zero_le _, rfl, rfl, hown, (Below.refl _ _).alloc (Nat.le_refl _) _⟩
  case round =>
    obtain ⟨k, hk, rfl, rfl, hown, hnx⟩ := hrel
    by_cases hlt : k < 64
    · have HM := Lib.hid (mem_nat a k hlt)
      cases hb : a.testBit k with
      | true =>
        have hm : mem a (k : Int) = true := by rw [HM.out, hb]
        have hf := HF.out (k + 1) (by omega)
        rw [flt_yes a k hb, List.length_append, ← HN.out] at hf
        have hroom : (flt a k).length + 1 ≤ n := by simpa using hf
        have HY := Lib.hid (flt_yes a k hb)
        clear hf hb
        generalize hq : (flt a k).length = q at *
        have HQ := Lib.hid hq
        clear hq
        go_wp2_with fail
        refine (has_any a k _ ha (by omega) (by omega)).mono ?_
        rintro e w' ⟨rfl, rfl⟩
        go_wp2_with (at_builtin; refine wpList_append_fits _ rfl (.tmp 14) (.tmp 16) 181 rfl w.heap.size 3 i0 1 Try.underlying181 hi hz1 w.heap.size q n _ rfl (hown.alloc _) ⟨wr.heap.size, 0, none⟩ 1 1 [.int .i64 (k : Int)] rfl rfl (cell_one_new _ _ _) (by simp [Value.oneCell']) (by omega) ?_; intro w1 hown1 hgrow1)
        go_roundw
        case rel =>
          refine ⟨k + 1, by omega, by go_num, ?_, ?_, (hnx.alloc hnx.size _).grown hgrow1 (by simp; have := hnx.size; omega) (fun k hk => by cases hk; exact Nat.le_refl _)⟩
          · rw [HY.out, List.length_append, HQ.out]; rfl
          · rw [HY.out, List.length_append, HQ.out]
            have : cellsI (flt a k ++ [k]) = cellsI (flt a k) ++ [.int .i64 (k : Int)] := by simp [cellsI]
            rw [this]
            exact hown1
        case measure => simp [intOf]; omega
      | false =>
        have hm : mem a (k : Int) = false := by rw [HM.out, hb]
        have HY := Lib.hid (flt_no a k hb)
        clear hb
        go_wp2_with fail
        refine (has_any a k _ ha (by omega) (by omega)).mono ?_
        rintro e w' ⟨rfl, rfl⟩
        go_wp2
        go_roundw
        case rel => exact ⟨k + 1, by omega, by go_num, by rw [HY.out], by rw [HY.out]; exact hown, hnx⟩
        case measure => simp [intOf]; omega
    · have hk2 : k = 64 := by omega
      have HK := Lib.hid hk2
      clear hk2
      go_wp2
      go_ret
      have e1 : flt a k = lst a := by rw [HK.out]; rfl
      have e2 : (flt a k).length = n := by rw [e1, HLN.out, HN.out]
      rw [e2] at hown
      have hin := InI.own hown (flt_lt a k hk)
      rw [e1] at hin
      exact ⟨by rw [e2]; rfl, hin, hnx⟩
end Go.Proofs.Ytfocjcdfpnbkjaa

/- An order in memory: its block of 134 cells, its hold, its horizon. -/
set_option linter.unusedVariables false
set_option linter.unusedSimpArgs false
namespace Go.Proofs.Ytfocjcdfpnbkjaa
open Go.RowKit Go.Sort

def encT (n : Nat) : List Value := [.int .u32 (n : Int), .int .u32 (n : Int)]
theorem encT_length (n : Nat) : (encT n).length = 2 := rfl
def rowT (f : Nat → Nat) : List Value := flat encT ((List.range 64).map f)
theorem rowT_length (f : Nat → Nat) : (rowT f).length = 128 := by
  unfold rowT; rw [flat_length encT 2 encT_length]; simp
theorem rowT_at (f : Nat → Nat) (p : Nat) (hp : p < 64) (c : Nat) (hc : c < 2) : (rowT f)[p * 2 + c]? = (encT (f p))[c]? := by
  unfold rowT
  exact flat_at encT 2 encT_length _ p _ (by rw [List.getElem?_map, List.getElem?_range hp]; rfl) c hc
theorem rowT_set (f : Nat → Nat) (p n : Nat) (hp : p < 64) : ((rowT f).set (p * 2) (.int .u32 (n : Int))).set (p * 2 + 1) (.int .u32 (n : Int)) = rowT (updF f p n) := by
  apply List.ext_getElem?
  intro i
  rw [List.getElem?_set, List.length_set, rowT_length, List.getElem?_set, rowT_length]
  by_cases hi : i < 128
  · have hd : i / 2 * 2 + i % 2 = i := by omega
    have h3 : i % 2 < 2 := Nat.mod_lt _ (by decide)
    have h64 : i / 2 < 64 := by omega
    have e1 := rowT_at f (i / 2) h64 (i % 2) h3
    have e2 := rowT_at (updF f p n) (i / 2) h64 (i % 2) h3
    rw [hd] at e1 e2
    rw [e1, e2]
    by_cases e : i / 2 = p
    · subst e
      rw [updF_same]
      rcases (show i % 2 = 0 ∨ i % 2 = 1 by omega) with e3 | e3
      · rw [if_neg (by omega), if_pos (by omega), if_pos (by omega), e3]; rfl
      · rw [if_pos (by omega), if_pos (by omega), e3]; rfl
    · rw [updF_other _ _ _ _ e, if_neg (by omega), if_neg (by omega)]
  · rw [if_neg (by omega), if_neg (by omega), List.getElem?_eq_none (by rw [rowT_length]; omega), List.getElem?_eq_none (by rw [rowT_length]; omega)]
/-- The cells of an order. -/
def oC (gh gz : Nat) (O : Od) : List Value :=
  .pointer (some ⟨gh, 0, none⟩) :: .pointer (some ⟨gz, 0, none⟩) :: .int .i64 O.me :: .int .u64 (O.ms : Int) :: (rowT O.dn ++ [.int .u64 O.last.n, .int .i64 O.last.p])
theorem oC_length (gh gz : Nat) (O : Od) : (oC gh gz O).length = 134 := by unfold oC; simp [rowT_length]
theorem oC_one (gh gz : Nat) (O : Od) : (oC gh gz O).toArray.all (·.oneCell') = true := by
  apply all_oneCell_toArray
  intro v hv
  unfold oC at hv
  rcases List.mem_cons.1 hv with rfl | hv
  · rfl
  rcases List.mem_cons.1 hv with rfl | hv
  · rfl
  rcases List.mem_cons.1 hv with rfl | hv
  · rfl
  rcases List.mem_cons.1 hv with rfl | hv
  · rfl
  rcases List.mem_append.1 hv with hv | hv
  · unfold rowT flat at hv
    obtain ⟨c, hc, huc⟩ := List.mem_flatten.1 hv
    obtain ⟨m, _, rfl⟩ := List.mem_map.1 hc
    simp only [encT, List.mem_cons, List.not_mem_nil, or_false] at huc
    rcases huc with rfl | rfl <;> rfl
  · simp only [List.mem_cons, List.not_mem_nil, or_false] at hv
    rcases hv with rfl | rfl <;> rfl
theorem oC_tally (gh gz : Nat) (O : Od) (p n : Nat) (hp : p < 64) : ((oC gh gz O).toArray.setIfInBounds (4 + p * 2) (.int .u32 (n : Int))).setIfInBounds (4 + p * 2 + 1) (.int .u32 (n : Int)) = (oC gh gz { O with dn := updF O.dn p n }).toArray := by
  rw [List.setIfInBounds_toArray, List.setIfInBounds_toArray]
  refine congrArg List.toArray ?_
  unfold oC
  rw [show 4 + p * 2 + 1 = p * 2 + 1 + 1 + 1 + 1 + 1 by omega, show 4 + p * 2 = p * 2 + 1 + 1 + 1 + 1 by omega]
  simp only [List.set_cons_succ]
  rw [List.set_append_left _ _ (by rw [rowT_length]; omega), List.set_append_left _ _ (by rw [List.length_set, rowT_length]; omega), rowT_set _ _ _ hp]
theorem oC_last (gh gz : Nat) (O : Od) (k : K) : ((oC gh gz O).toArray.setIfInBounds 132 (.int .u64 k.n)).setIfInBounds 133 (.int .i64 k.p) = (oC gh gz { O with last := k }).toArray := by
  rw [List.setIfInBounds_toArray, List.setIfInBounds_toArray]
  refine congrArg List.toArray ?_
  unfold oC
  rw [show (133 : Nat) = 129 + 1 + 1 + 1 + 1 from rfl, show (132 : Nat) = 128 + 1 + 1 + 1 + 1 from rfl]
  simp only [List.set_cons_succ]
  rw [List.set_append_right _ _ (by rw [rowT_length]; decide), List.set_append_right _ _ (by rw [rowT_length]; decide), rowT_length]
  rfl

/-- An order: its block g, its hold gh, its horizon gz; all in blocks of E. -/
structure OAt (w : World) (E : Nat → Prop) (g gh gz N : Nat) (F : Nat → Prop) (zs : ZSl) (O : Od) : Prop where
  own : Own w g 61 (oC gh gz O).toArray
  hold : HRep w F gh N O.S
  hz : HzAt w gz 0 O.H zs
  wt : O.H.wait.length ≤ N
  ok : O.ok
  eg : E g
  ez : E gz
  er : ∀ x, zs.a = some x → E x.block
  ef : ∀ k, F k → E k
  lim : ∀ k, E k → k < w.heap.size
  ng : gz ≠ g
  nf : ∀ k, F k → k ≠ g ∧ k ≠ gz ∧ ∀ x, zs.a = some x → k ≠ x.block
section
variable {w : World} {E F : Nat → Prop} {g gh gz N : Nat} {zs : ZSl} {O : Od}
theorem OAt.nr (h : OAt w E g gh gz N F zs O) (x : Addr) (hx : zs.a = some x) : x.block ≠ g := by
  obtain ⟨cur, hc⟩ := h.hz.row.typ x hx
  intro e
  rw [e] at hc
  have := h.own.is.symm.trans hc
  injection this with e
  injection e with _ e _
  exact absurd e (by decide)
theorem OAt.c0 (h : OAt w E g gh gz N F zs O) : w.cell? ⟨g, 0, none⟩ = some (.pointer (some ⟨gh, 0, none⟩)) := h.own.at_ 0 _ rfl
theorem OAt.c1 (h : OAt w E g gh gz N F zs O) : w.cell? ⟨g, 1, none⟩ = some (.pointer (some ⟨gz, 0, none⟩)) := h.own.at_ 1 _ rfl
theorem OAt.c2 (h : OAt w E g gh gz N F zs O) : w.cell? ⟨g, 2, none⟩ = some (.int .i64 O.me) := h.own.at_ 2 _ rfl
theorem OAt.c3 (h : OAt w E g gh gz N F zs O) : w.cell? ⟨g, 3, none⟩ = some (.int .u64 (O.ms : Int)) := h.own.at_ 3 _ rfl
theorem cell_tally {O : Od} (h : Own w g 61 (oC gh gz O).toArray) (p : Nat) (hp : p < 64) (c : Nat) (u : Value) (hu : (encT (O.dn p))[c]? = some u) : w.cell? ⟨g, 4 + p * 2 + c, none⟩ = some u := by
  have hc : c < 2 := (List.getElem?_eq_some_iff.1 hu).1
  refine h.at_ (4 + p * 2 + c) _ ?_
  rw [List.getElem?_toArray, oC, show 4 + p * 2 + c = p * 2 + c + 1 + 1 + 1 + 1 by omega]
  simp only [List.getElem?_cons_succ]
  rw [List.getElem?_append_left (by rw [rowT_length]; omega), rowT_at _ p hp c hc]
  exact hu
theorem OAt.t0 (h : OAt w E g gh gz N F zs O) (p : Nat) (hp : p < 64) : w.cell? ⟨g, 4 + p * 2, none⟩ = some (.int .u32 (O.dn p : Int)) := cell_tally h.own p hp 0 _ rfl
theorem OAt.t1 (h : OAt w E g gh gz N F zs O) (p : Nat) (hp : p < 64) : w.cell? ⟨g, 4 + p * 2 + 1, none⟩ = some (.int .u32 (O.dn p : Int)) := cell_tally h.own p hp 1 _ rfl
theorem cell_last {O : Od} (h : Own w g 61 (oC gh gz O).toArray) : w.cell? ⟨g, 132, none⟩ = some (.int .u64 O.last.n) ∧ w.cell? ⟨g, 133, none⟩ = some (.int .i64 O.last.p) := by
  constructor
  · refine h.at_ 132 _ ?_
    rw [List.getElem?_toArray, oC, show (132 : Nat) = 128 + 1 + 1 + 1 + 1 from rfl]
    simp only [List.getElem?_cons_succ]
    rw [List.getElem?_append_right (by rw [rowT_length]; decide), rowT_length]; rfl
  · refine h.at_ 133 _ ?_
    rw [List.getElem?_toArray, oC, show (133 : Nat) = 129 + 1 + 1 + 1 + 1 from rfl]
    simp only [List.getElem?_cons_succ]
    rw [List.getElem?_append_right (by rw [rowT_length]; decide), rowT_length]; rfl
theorem OAt.free (h : OAt w E g gh gz N F zs O) (j : Nat) : w.frozen? ⟨g, j, none⟩ = false := h.own.free j
theorem OAt.kept {w' : World} (h : OAt w E g gh gz N F zs O) (hs : w.heap.size ≤ w'.heap.size) (hb : ∀ k, E k → w'.heap[k]? = w.heap[k]?) : OAt w' E g gh gz N F zs O :=
  ⟨(hb g h.eg).trans h.own, h.hold.kept hs fun k hk => hb k (h.ef k hk), h.hz.kept fun k _ hk => by
    rcases hk with rfl | ⟨x, e, rfl⟩
    · exact hb _ h.ez
    · exact hb _ (h.er x e), h.wt, h.ok, h.eg, h.ez, h.er, h.ef, fun k hk => Nat.lt_of_lt_of_le (h.lim k hk) hs, h.ng, h.nf⟩
theorem OAt.below {w' : World} (h : OAt w E g gh gz N F zs O) (hb : Below w.heap.size w w') : OAt w' E g gh gz N F zs O := h.kept hb.size fun k hk => hb.block k (h.lim k hk)
theorem OAt.le {M : Nat} (h : OAt w E g gh gz N F zs O) (hm : N ≤ M) : OAt w E g gh gz M F zs O :=
  ⟨h.own, h.hold.le hm, h.hz, Nat.le_trans h.wt hm, h.ok, h.eg, h.ez, h.er, h.ef, h.lim, h.ng, h.nf⟩
theorem OAt.more {E' : Nat → Prop} (h : OAt w E g gh gz N F zs O) (hE : ∀ k, E k → E' k) (hl : ∀ k, E' k → k < w.heap.size) : OAt w E' g gh gz N F zs O :=
  ⟨h.own, h.hold, h.hz, h.wt, h.ok, hE _ h.eg, hE _ h.ez, fun x hx => hE _ (h.er x hx), fun k hk => hE _ (h.ef k hk), hl, h.ng, h.nf⟩
end
/-- An order, its parts hidden. -/
structure ORep (w : World) (E : Nat → Prop) (g N : Nat) (O : Od) : Prop where
  ex : ∃ gh gz F zs, OAt w E g gh gz N F zs O
section
variable {w : World} {E : Nat → Prop} {g N : Nat} {O : Od}
theorem ORep.kept {w' : World} (h : ORep w E g N O) (hs : w.heap.size ≤ w'.heap.size) (hb : ∀ k, E k → w'.heap[k]? = w.heap[k]?) : ORep w' E g N O := by
  obtain ⟨gh, gz, F, zs, h⟩ := h.ex
  exact ⟨gh, gz, F, zs, h.kept hs hb⟩
theorem ORep.lim (h : ORep w E g N O) (k : Nat) (hk : E k) : k < w.heap.size := by
  obtain ⟨gh, gz, F, zs, h⟩ := h.ex
  exact h.lim k hk
theorem ORep.below {w' : World} (h : ORep w E g N O) (hb : Below w.heap.size w w') : ORep w' E g N O := h.kept hb.size fun k hk => hb.block k (h.lim k hk)
theorem ORep.chg {w' : World} {D : Nat → Prop} (h : ORep w E g N O) (hb : Chg D w w') (hD : ∀ k, E k → ¬ D k) : ORep w' E g N O := h.kept hb.size fun k hk => hb.block k (h.lim k hk) (hD k hk)
theorem ORep.le {M : Nat} (h : ORep w E g N O) (hm : N ≤ M) : ORep w E g M O := by
  obtain ⟨gh, gz, F, zs, h⟩ := h.ex
  exact ⟨gh, gz, F, zs, h.le hm⟩
theorem ORep.more {E' : Nat → Prop} (h : ORep w E g N O) (hE : ∀ k, E k → E' k) (hl : ∀ k, E' k → k < w.heap.size) : ORep w E' g N O := by
  obtain ⟨gh, gz, F, zs, h⟩ := h.ex
  exact ⟨gh, gz, F, zs, h.more hE hl⟩
theorem ORep.ok (h : ORep w E g N O) : O.ok := by
  obtain ⟨gh, gz, F, zs, h⟩ := h.ex
  exact h.ok
theorem ORep.eg (h : ORep w E g N O) : E g := by
  obtain ⟨gh, gz, F, zs, h⟩ := h.ex
  exact h.eg
theorem ORep.up {w' : World} (h : ORep w' E g N O) (hw : w.heap.size ≤ w'.heap.size) : ORep w' (newF E w w') g N O := h.more (fun k hk => .inl hk) fun k hk => by
  rcases hk with hk | hk
  · exact h.lim k hk
  · exact hk.2
theorem newF_to {w w1 w2 : World} {E : Nat → Prop} (h1 : w.heap.size ≤ w1.heap.size) (h2 : w1.heap.size ≤ w2.heap.size) : ∀ k, newF (newF E w w1) w1 w2 k → newF E w w2 k := fun k hk => by
  rcases hk with (hk | hk) | hk
  · exact .inl hk
  · exact .inr ⟨hk.1, by omega⟩
  · exact .inr ⟨by omega, hk.2⟩
theorem newF_then {w w1 w2 : World} {E : Nat → Prop} (h1 : w.heap.size ≤ w1.heap.size) (h2 : w1.heap.size ≤ w2.heap.size) : ∀ k, newF E w1 w2 k → newF E w w2 k := fun k hk => by
  rcases hk with hk | hk
  · exact .inl hk
  · exact .inr ⟨by omega, hk.2⟩
end
/-- What a call on an order leaves. -/
structure OSaid (w : World) (E : Nat → Prop) (g N : Nat) (O : Od) (v : Value) (e : Ending) (w' : World) : Prop where
  ans : e = .returned v
  rep : ORep w' (newF E w w') g N O
  chg : Chg E w w'
theorem OSaid.after {w w1 w' : World} {E : Nat → Prop} {g N : Nat} {O : Od} {v : Value} {e : Ending} (hb : Below w.heap.size w w1) (h : OSaid w1 E g N O v e w') : OSaid w E g N O v e w' :=
  ⟨h.ans, h.rep.more (newF_then hb.size h.chg.size) fun k hk => by
    rcases hk with hk | hk
    · exact h.rep.lim k (.inl hk)
    · exact hk.2, Chg.after hb h.chg⟩
/-- The hold has turned, by itself. -/
theorem OAt.held {w w' : World} {E F : Nat → Prop} {g gh gz N M : Nat} {zs : ZSl} {O : Od} (h : OAt w E g gh gz N F zs O) {S : Hs} (hr : HRep w' (newF F w w') gh M S) (hc : Chg F w w') (hm : N ≤ M) (hok : ({ O with S := S } : Od).ok) :
    OAt w' (newF E w w') g gh gz M (newF F w w') zs { O with S := S } := by
  have hg := (h.nf · · |>.1)
  have hs := hc.size
  refine ⟨(hc.block g (h.lim g h.eg) (fun e => (h.nf g e).1 rfl)).trans h.own, hr, h.hz.kept fun k hk e => ?_, Nat.le_trans h.wt hm, hok, .inl h.eg, .inl h.ez, fun x hx => .inl (h.er x hx), fun k hk => ?_, fun k hk => ?_, h.ng, fun k hk => ?_⟩
  · rcases e with rfl | ⟨x, e, rfl⟩
    · exact hc.block _ hk (fun e => (h.nf _ e).2.1 rfl)
    · exact hc.block _ hk (fun e2 => (h.nf _ e2).2.2 x e rfl)
  · rcases hk with hk | hk
    · exact .inl (h.ef k hk)
    · exact .inr hk
  · rcases hk with hk | hk
    · exact Nat.lt_of_lt_of_le (h.lim k hk) hs
    · exact hk.2
  · rcases hk with hk | hk
    · exact h.nf k hk
    · have h1 := h.lim g h.eg
      have h2 := h.lim gz h.ez
      exact ⟨by omega, by omega, fun x hx => by have := h.lim _ (h.er x hx); omega⟩
/-- The horizon has turned, by itself. -/
theorem OAt.seen {w w' : World} {E F : Nat → Prop} {g gh gz N M : Nat} {zs : ZSl} {O : Od} (h : OAt w E g gh gz N F zs O) {H : Hz} (hr : Gone13 w w' gz 0 zs H) (hm : N ≤ M) (hw : H.wait.length ≤ M) :
    ORep w' (newF E w w') g M { O with H := H } ∧ Chg E w w' := by
  obtain ⟨zs', h1, m⟩ := hr.ex
  have hE : ∀ k, k < w.heap.size → ¬ E k → w'.heap[k]? = w.heap[k]? := fun k hk hn => m.block k hk (fun e => hn (e ▸ h.ez)) (fun a e e2 => hn (e2 ▸ h.er a e))
  have hr' : ∀ x, zs'.a = some x → (∃ a, zs.a = some a ∧ a.block = x.block) ∨ w.heap.size ≤ x.block := m.own
  have hlt : ∀ x, zs'.a = some x → x.block < w'.heap.size := fun x hx => h1.row.lt x hx
  refine ⟨⟨gh, gz, F, zs', ⟨(m.block g (h.lim g h.eg) (fun e => h.ng e.symm) (fun a e e2 => h.nr a e e2.symm)).trans h.own, (h.hold.kept m.size fun k hk => m.block k (h.lim k (h.ef k hk)) (h.nf k hk).2.1 (fun a e => (h.nf k hk).2.2 a e)).le hm, h1, hw, h.ok.withH h1.ok, .inl h.eg, .inl h.ez, fun x hx => ?_, fun k hk => .inl (h.ef k hk), fun k hk => ?_, h.ng, fun k hk => ⟨(h.nf k hk).1, (h.nf k hk).2.1, fun x hx => ?_⟩⟩⟩, ⟨m.os, m.tape, m.output, m.size, hE⟩⟩
  · rcases hr' x hx with ⟨a, e1, e2⟩ | e
    · rw [← e2]; exact .inl (h.er a e1)
    · exact .inr ⟨e, hlt x hx⟩
  · rcases hk with hk | hk
    · exact Nat.lt_of_lt_of_le (h.lim k hk) m.size
    · exact hk.2
  · rcases hr' x hx with ⟨a, e1, e2⟩ | e
    · rw [← e2]; exact (h.nf k hk).2.2 a e1
    · have := h.lim k (h.ef k hk); omega
end Go.Proofs.Ytfocjcdfpnbkjaa
