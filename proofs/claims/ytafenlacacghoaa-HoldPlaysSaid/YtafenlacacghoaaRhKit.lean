/- The document's hold in memory: a block of 65 cells; Count, Get, Drop. -/
import Derived.Test.YtafenlacacghoaaHdDo
set_option linter.unusedVariables false
set_option linter.unusedSimpArgs false
namespace Go.Proofs.Ytafenlacacghoaa
open Go.RowKit Go.Sort

/-- The cells of the document's hold: all that was put, and the marks. -/
def rhC (s : Sl) (lo : Nat → Nat) : List Value := s.v :: rowF vU lo
theorem rhC_length (s : Sl) (lo : Nat → Nat) : (rhC s lo).length = 65 := by unfold rhC; rw [List.length_cons, rowF_length]
theorem rhC_lo (s : Sl) (lo : Nat → Nat) (p : Nat) (hp : p < 64) : (rhC s lo)[1 + p]? = some (.int .u32 (lo p : Int)) := by
  unfold rhC; rw [show 1 + p = p + 1 by omega, List.getElem?_cons_succ, rowF_at _ _ _ hp]; rfl
theorem rhC_set (s : Sl) (lo : Nat → Nat) (p n : Nat) (hp : p < 64) : (rhC s lo).toArray.setIfInBounds (1 + p) (.int .u32 (n : Int)) = (rhC s (updF lo p n)).toArray := by
  rw [List.setIfInBounds_toArray]; congr 1
  unfold rhC
  rw [show 1 + p = p + 1 by omega, List.set_cons_succ]
  congr 1
  exact rowF_set vU lo p n hp
theorem rhC_set0 (s t : Sl) (lo : Nat → Nat) : (rhC s lo).toArray.setIfInBounds 0 t.v = (rhC t lo).toArray := by
  rw [List.setIfInBounds_toArray]; rfl
theorem rhC_one (s : Sl) (lo : Nat → Nat) : (rhC s lo).toArray.all (·.oneCell') = true := by simp [rhC, rowF, vU, Sl.v, Value.oneCell']
theorem rh_size : (Try.prog.info? 34).map (·.size) = some 65 := by kernel_rfl
theorem rh_zero (w : World) : (zeroValue 34).run Try.prog w = .ok (.agg (rhC slNil (fun _ => 0)).toArray) w := by kernel_rfl
/-- Its block. -/
def RhB (w : World) (b : Nat) (s : Sl) (lo : Nat → Nat) : Prop := Own w b 34 (rhC s lo).toArray
section
variable {w : World} {b : Nat} {s : Sl} {lo : Nat → Nat}
theorem RhB.own (h : RhB w b s lo) : Own w b 34 (rhC s lo).toArray := h
theorem RhB.lt (h : RhB w b s lo) : b < w.heap.size := h.own.lt
theorem RhB.new (w : World) (s : Sl) (lo : Nat → Nat) : RhB (w.alloc (.cells (rhC s lo).toArray 34)) w.heap.size s lo := Own.new w _ _
theorem RhB.below {w' : World} (h : RhB w b s lo) (hb : Below w.heap.size w w') : RhB w' b s lo := (hb.block b h.lt).trans h
theorem RhB.c0 (h : RhB w b s lo) : w.cell? ⟨b, 0, none⟩ = some (.slice s.a s.n s.c) := h.own.at_ 0 _ rfl
theorem RhB.cl (h : RhB w b s lo) (p : Nat) (hp : p < 64) : w.cell? ⟨b, 1 + p, none⟩ = some (.int .u32 (lo p : Int)) := h.own.at_ _ _ (by rw [List.getElem?_toArray]; exact rhC_lo _ _ _ hp)
theorem RhB.free (h : RhB w b s lo) (j : Nat) : w.frozen? ⟨b, j, none⟩ = false := h.own.free j
end
theorem store_rh {ops : Array Oper} {rest : List Oper} {o : Oper} {A : Act} {w : World} {Q : Exit → Act → World → Prop} (hgd : o.guard = none) (x y : Operand) (ho : o.op = .store 34 x y)
    (b : Nat) (s : Sl) (lo : Nat → Nat) (hx : A.eval x = .pointer (some ⟨b, 0, none⟩)) (hy : A.eval y = .agg (rhC s lo).toArray) {s0 : Sl} {lo0 : Nat → Nat} (hg : RhB w b s0 lo0)
    (h : wpList Try.prog ops Q rest (A.put o.dst undef) (w.setRow b (rhC s lo).toArray)) : wpList Try.prog ops Q (o :: rest) A w :=
  wpList_store_row hgd 34 x y ho b _ hx hy 34 _ hg (by rw [List.size_toArray, rhC_length]; exact rh_size) (by rw [List.size_toArray, List.size_toArray, rhC_length, rhC_length]) (rhC_one s lo) h
theorem load_rh {ops : Array Oper} {rest : List Oper} {o : Oper} {A : Act} {w : World} {Q : Exit → Act → World → Prop} (hgd : o.guard = none) (x : Operand) (ho : o.op = .load 34 x)
    (b : Nat) (s : Sl) (lo : Nat → Nat) (hx : A.eval x = .pointer (some ⟨b, 0, none⟩)) (hg : RhB w b s lo) (h : wpList Try.prog ops Q rest (A.put o.dst (.agg (rhC s lo).toArray)) w) : wpList Try.prog ops Q (o :: rest) A w :=
  wpList_load_row hgd 34 x ho b hx 34 _ _ _ hg Try.underlying34 rfl (by rw [List.size_toArray, rhC_length]; exact rh_size) h
theorem results_rh {fn : Func} {p : Tmp} (h : fn.results = #[.cell p 34]) (tmps : Array Value) (w : World) (b : Nat) {s : Sl} {lo : Nat → Nat} (hp : tmps.getD p undef = .pointer (some ⟨b, 0, none⟩)) (hg : RhB w b s lo) :
    (results fn tmps).run Try.prog w = .ok (.agg (rhC s lo).toArray) w :=
  results_cell_row h tmps w b 34 _ (0, 0) _ hp hg Try.underlying34 rfl (by rw [List.size_toArray, rhC_length]; exact rh_size)

/-- How many of these are p's. -/
def cntA (L : List Mg) (p : Int) : Nat := (L.filter fun m => m.f == p).length
theorem cntA_le (L : List Mg) (p : Int) : cntA L p ≤ L.length := List.length_filter_le _ _
set_option maxHeartbeats 4000000 in
theorem rh_count (s : Sl) (lo : Nat → Nat) (L : List Mg) (p : Int) (w : World) (hl : Lst encG 6 w s.a s.n L) (hn : s.n ≤ 1000) :
    Calls Try.prog 19 #[.agg (rhC s lo).toArray, .int .i64 p] w fun e w' => e = .returned (.int .u32 (cntA L p : Nat)) ∧ Grw w w' := by
  have c0 := (RhB.new w s lo).c0
  have HG := Lib.hid ((Grw.refl w).alloc (.cells (rhC s lo).toArray 34))
  have HL := Lib.hid (Lst.below hl HG.out.below)
  have hwl : w.heap.size < (w.alloc (.cells (rhC s lo).toArray 34)).heap.size := by simp
  obtain ⟨sa, sn, sc⟩ := s
  simp only at c0 hl hn HL
  generalize (rhC ⟨sa, sn, sc⟩ lo).toArray = C at *
  clear hl
  go_enter Try.func19, Try.ntmps19
  go_upto_region 1 with fail
  generalize w.alloc (.cells C 34) = W at *
  generalize w.heap.size = hb at *
  go_wp2
  go_loopw [5, 6] (fun nv si wr => ∃ k : Nat, k ≤ sn ∧ si = .int .i64 k ∧ nv = .int .u32 (cntA (L.take k) p : Nat) ∧ wr = W) (fun _ si _ => sn - (intOf si).toNat)
  case atStart => exact ⟨0, Nat.zero_le _, rfl, rfl, rfl⟩
  case round =>
    obtain ⟨k, hk, rfl, rfl, rfl⟩ := hrel
    by_cases hlt : k < sn
    · obtain ⟨b, o, x, rfl, hx, hb1, hc⟩ := HL.out.atG hlt
      have hkl := (List.getElem?_eq_some_iff.1 hx).1
      have HT := Lib.hid (show L.take (k + 1) = L.take k ++ [x] by rw [List.take_succ_eq_append_getElem hkl, (List.getElem?_eq_some_iff.1 hx).2])
      have d0 := hc 0 _ rfl
      rw [Nat.add_zero] at d0
      have hcb := cntA_le (L.take k) p
      rw [List.length_take] at hcb
      obtain ⟨n0, hn0⟩ : ∃ n0, n0 = cntA (L.take k) p := ⟨_, rfl⟩
      rw [← hn0] at hcb ⊢
      have hnb : n0 ≤ 1000 := by omega
      have HN0 := Lib.hid hn0
      obtain ⟨f, hf⟩ : ∃ f, f = x.f := ⟨_, rfl⟩
      rw [← hf] at d0
      have HF := Lib.hid hf
      clear hcb hn0 hf hc hx hkl
      by_cases he : f = p
      · have he2 : (f == p) = true := by simpa using he
        have HE : Hid (cntA (L.take (k + 1)) p = n0 + 1) := Lib.hid (by
          rw [HT.out, HN0.out]
          unfold cntA
          rw [List.filter_append, List.filter_cons_of_pos (by rw [← HF.out]; exact he2), List.filter_nil, List.length_append]; rfl)
        clear he
        go_wp2
        go_roundw
        case rel => exact ⟨k + 1, by omega, by go_num, by rw [HE.out]; rfl, trivial⟩
        case measure => simp [intOf]; omega
      · have he2 : (f == p) = false := by simpa using he
        have HE : Hid (cntA (L.take (k + 1)) p = n0) := Lib.hid (by
          rw [HT.out, HN0.out]
          unfold cntA
          rw [List.filter_append, List.filter_cons_of_neg (by rw [← HF.out, he2]; simp), List.filter_nil, List.append_nil])
        clear he
        go_wp2
        go_roundw
        case rel => exact ⟨k + 1, by omega, by go_num, by rw [HE.out], trivial⟩
        case measure => simp [intOf]; omega
    · have hE : Hid (cntA (L.take k) p = cntA L p) := Lib.hid (by rw [List.take_of_length_le (by rw [HL.out.size]; omega)])
      rw [hE.out]
      obtain ⟨n1, hn1⟩ : ∃ n1, n1 = cntA L p := ⟨_, rfl⟩
      rw [← hn1]
      have HN1 := Lib.hid hn1
      clear hn1
      go_wp2
      go_ret
      exact ⟨by rw [← HN1.out]; rfl, HG.out⟩
end Go.Proofs.Ytafenlacacghoaa
