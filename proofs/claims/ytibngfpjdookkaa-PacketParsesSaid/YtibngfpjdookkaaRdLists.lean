import Derived.Test.YtibngfpjdookkaaPkVec
import Derived.Deep.LoopGhost
/- Reading a vector. -/
set_option linter.unusedVariables false
set_option linter.unusedSimpArgs false
namespace Go.Proofs.Ytibngfpjdookkaa
open Go.RowKit Go.Sort

theorem Try.info32 : (Try.prog.info? 29).map (fun i => (i.zero, i.size, i.bytes)) = some (some (.int .u32 0), 1, 4) := by kernel_rfl
/-- 'make([]uint32, n)': a new row of zeros. -/
theorem makes32 (n : Nat) (hn : n ≤ 1048576) (W : World) :
    (Instr.makeSlice 30 (.int .i64 (n : Int)) (.int .i64 (n : Int))).run Try.prog W = .ok (.slice (some ⟨W.heap.size, 0, none⟩) n n) (W.alloc (.cells (List.replicate n (Value.int .u32 0)).toArray 29)) := by
  obtain ⟨i0, hi, hz0, hz1, hz2⟩ := info_parts Try.info32
  have h := run_make (P := Try.prog) W 30 29 i0 (.int .u32 0) Try.underlying30 hi hz0 .i64 .i64 (n : Int) (n : Int) (by omega) (by omega) (by rw [hz2]; omega) (by omega)
  have e : madeCells (Value.int .u32 0).cells ((n : Int).toNat * 1) = (List.replicate n (Value.int .u32 0)).toArray := by
    apply Array.ext'
    rw [Int.toNat_natCast, Nat.mul_one]
    exact toList_madeCells_one (.int .u32 0) n
  rw [hz1, e, Int.toNat_natCast] at h
  exact h

/-- Cells of some numbers, and zeros behind them. -/
def cells32 (vs : List Nat) (n : Nat) : Array Value := (vs.map (fun v : Nat => Value.int .u32 (v : Int)) ++ List.replicate (n - vs.length) (Value.int .u32 0)).toArray
theorem cells32_set (vs : List Nat) (n v : Nat) (h : vs.length < n) : (cells32 vs n).setIfInBounds vs.length (.int .u32 (v : Int)) = cells32 (vs ++ [v]) n := by
  apply Array.ext'
  unfold cells32
  rw [List.setIfInBounds_toArray]
  simp only
  obtain ⟨m, hm⟩ : ∃ m, n - vs.length = m + 1 := ⟨n - vs.length - 1, by omega⟩
  have e2 : n - (vs ++ [v]).length = m := by rw [List.length_append, List.length_singleton]; omega
  rw [hm, e2, List.replicate_succ, List.set_append_right _ _ (by simp)]
  simp
theorem cells32_size (vs : List Nat) (n : Nat) (h : vs.length ≤ n) : (cells32 vs n).size = n := by unfold cells32; simp; omega
theorem cells32_at (vs : List Nat) (n j x : Nat) (h : vs[j]? = some x) : (cells32 vs n)[j]? = some (.int .u32 (x : Int)) := by
  unfold cells32
  have hj : j < vs.length := (List.getElem?_eq_some_iff.1 h).1
  simp only [List.getElem?_toArray]
  rw [List.getElem?_append_left (by simpa using hj), List.getElem?_map, h]; rfl

/-- A vector that is being read: k of n numbers. -/
structure VecSt (w W : World) (b : Nat) (s : ByteArray) (l0 : List UInt8) (g n k : Nat) (vs : List Nat) (a : Nat) : Prop where
  rd : Rd W b s a
  box : W.cell? ⟨w.heap.size, 0, none⟩ = some (.pointer (some ⟨b, 0, none⟩))
  row : Own W g 29 (cells32 vs n)
  gr : w.grownBy W (some b)
  lt : b < w.heap.size
  ge : w.heap.size < g
  many : ManyAt (getN 4) l0 k vs (restB s a)
  words : Words vs
theorem VecSt.go {w W W' : World} {b : Nat} {s : ByteArray} {l0 : List UInt8} {g n k : Nat} {vs : List Nat} {a a' v : Nat} (h : VecSt w W b s l0 g n k vs a) (hG : getN 4 (restB s a) = .ok (v, restB s a')) (hr : Rd W' b s a') (hg : W.grownBy W' (some b)) (hk : k < n) :
    VecSt w (W'.setCell ⟨g, k, none⟩ (.int .u32 (v : Int))) b s l0 g n (k + 1) (vs ++ [v]) a' ∧ W'.cell? ⟨g, k, none⟩ = some (.int .u32 0) ∧ W'.frozen? ⟨g, k, none⟩ = false ∧ W'.cell? ⟨w.heap.size, 0, none⟩ = some (.pointer (some ⟨b, 0, none⟩)) := by
  have hlen := h.many.len
  have hne : g ≠ b := by have := h.ge; have := h.lt; omega
  have hbx : W'.cell? ⟨w.heap.size, 0, none⟩ = some (.pointer (some ⟨b, 0, none⟩)) := cell_grown_by hg (by have := h.lt; show w.heap.size ≠ b; omega) h.box
  have ho : Own W' g 29 (cells32 vs n) := h.row.grown hg (by intro e; cases e; exact hne rfl)
  have hz : (cells32 vs n)[k]? = some (.int .u32 0) := by
    subst hlen
    unfold cells32
    simp only [List.getElem?_toArray]
    rw [List.getElem?_append_right (by simp), List.length_map, Nat.sub_self, show n - vs.length = (n - vs.length - 1) + 1 by omega, List.replicate_succ]
    rfl
  refine ⟨⟨hr.set hne _ _, ?_, ?_, grown_set (grown_tr h.gr hg) (by have := h.ge; omega) _ _, h.lt, h.ge, h.many.step hG, ?_⟩, ho.at_ k _ hz, ho.free k, hbx⟩
  · rw [World.cell?_of_block (heap_setCell_other W' ⟨g, k, none⟩ w.heap.size _ (by have := h.ge; show w.heap.size ≠ g; omega))]; exact hbx
  · have := ho.set k (.int .u32 (v : Int))
    subst hlen
    rw [cells32_set vs n v hk] at this
    exact this
  · intro x hx
    rcases List.mem_append.1 hx with hx | hx
    · exact h.words x hx
    · rw [List.mem_singleton.1 hx]; exact getN_lt hG

set_option maxHeartbeats 2000000 in
theorem rvector (w : World) (b : Nat) (s : ByteArray) (a : Nat) (h : Rd w b s a) :
    Calls Try.prog 47 #[.agg #[.pointer (some ⟨b, 0, none⟩)]] w (RP getV (fun w' l val => ∃ v : Vc, val = .slice v.a v.n v.c ∧ OwnVec w.heap.size w' v l) w b s a) := by
  have hlt := h.lt
  have H := h.alloc' (.cells #[.pointer (some ⟨b, 0, none⟩)] 62)
  have hg0 := grown_alloc w (.cells #[.pointer (some ⟨b, 0, none⟩)] 62) (some b)
  have hbx : (w.alloc (.cells #[.pointer (some ⟨b, 0, none⟩)] 62)).cell? ⟨w.heap.size, 0, none⟩ = some (.pointer (some ⟨b, 0, none⟩)) := by simp
  have hz0 : (w.alloc (.cells #[.pointer (some ⟨b, 0, none⟩)] 62)).heap.size = w.heap.size + 1 := by simp
  go_enter Try.func47, Try.ntmps47
  go_wp2_with fail
  refine (rsmall _ b s a 1 64 3 1 (by decide) (by decide) H).mono ?_
  rintro e w1 (⟨v, _, a1, hG, rfl, rfl, hr, hg⟩ | ⟨q, hG, rfl, hg⟩)
  case inr => exact ⟨rfl, .inr ⟨q, getSm_err hG (fun n r => getNs n r), rfl, grown_tr hg0 hg⟩⟩
  obtain ⟨n, rfl, hn, hG1⟩ := getSm_ok hG
  have hmk := fun W => makes32 n (by omega) W
  have hcl : (List.replicate n (Value.int .u32 0)).toArray = cells32 [] n := by unfold cells32; simp
  rw [hcl] at hmk
  have hb1 : w1.cell? ⟨w.heap.size, 0, none⟩ = some (.pointer (some ⟨b, 0, none⟩)) := cell_grown_by hg (by show w.heap.size ≠ b; omega) hbx
  have hz1 := hg.size
  rw [hz0] at hz1
  have S0 : VecSt w (w1.alloc (.cells (cells32 [] n) 29)) b s (restB s a1) w1.heap.size n 0 [] a1 :=
    ⟨hr.alloc' _, cell_later ((Grw.refl w1).alloc _).below hb1, Own.new _ _ _, grown_tr (grown_tr hg0 hg) (grown_alloc _ _ _), hlt, by omega, ManyAt.begin _ _, fun v hv => by cases hv⟩
  have HG := Lib.hid hG1
  clear hG hG1 hr hg hg0 H hbx hb1 hcl hz0
  go_wp2_with fail
  clear hmk
  generalize hg1 : w1.heap.size = g at *
  clear hg1
  generalize w1.alloc (.cells (cells32 [] n) 29) = w2 at *
  have HN : (n : Int) ≤ 64 := by omega
  go_loopw [10] (fun si wr => ∃ (k ak : Nat) (vs : List Nat), k ≤ n ∧ si = .int .i64 (k : Int) ∧ VecSt w wr b s (restB s a1) g n k vs ak) (fun si _ => n - (intOf si).toNat)
  case atStart => exact ⟨0, a1, [], Nat.zero_le _, rfl, S0⟩
  case round =>
    clear S0
    obtain ⟨k, ak, vs, hk, rfl, S⟩ := hrel
    have hbox := S.box
    by_cases hlt : k < n
    · go_wp2_with fail
      refine (rfour _ b s ak S.rd).mono ?_
      rintro e w3 (⟨v, _, a3, hG, rfl, rfl, hr, hg⟩ | ⟨q, hG, rfl, hg⟩)
      case inr =>
        refine ⟨rfl, .inr ⟨q, ?_, rfl, grown_tr S.gr hg⟩⟩
        show andG (getN 1 (restB s a)) _ = _
        rw [HG.out, andG_ok, badG, if_neg (by omega), getNs_many]
        exact S.many.error hlt hG
      obtain ⟨S2, c0, f0, hb3⟩ := S.go hG hr hg hlt
      clear S hbox hr hg hG
      go_wp2_with fail
      go_roundw
      case rel => exact ⟨k + 1, a3, vs ++ [v], by omega, by go_num, S2⟩
      case measure => simp [intOf]; omega
    · obtain rfl : k = n := by omega
      go_wp2
      go_ret
      have hl := S.many.len
      refine .inl ⟨vs, _, ak, ?_, rfl, ⟨⟨some ⟨g, 0, none⟩, k, k⟩, rfl, ⟨hl, .inr ⟨g, _, rfl, by have := S.ge; omega, S.row, fun j x hj => cells32_at _ _ _ _ hj⟩, S.words⟩⟩, S.rd, S.gr⟩
      show andG (getN 1 (restB s a)) _ = _
      rw [HG.out, andG_ok, badG, if_neg (by omega), getNs_many]
      exact S.many.done
end Go.Proofs.Ytibngfpjdookkaa

/- Reading a message, an exchange. -/
set_option linter.unusedVariables false
set_option linter.unusedSimpArgs false
namespace Go.Proofs.Ytibngfpjdookkaa
open Go.RowKit Go.Sort

theorem OwnVec.set {B : Nat} {w : World} {v : Vc} {l : List Nat} (h : OwnVec B w v l) {g : Nat} (hg : g < B) (j : Nat) (x : Value) : OwnVec B (w.setCell ⟨g, j, none⟩ x) v l :=
  ⟨h.len, h.cells.imp id fun ⟨g', cur, e, hB, ho, hc⟩ => ⟨g', cur, e, hB, ho.set_other _ _ _ (by omega), hc⟩, h.words⟩
theorem Ahead.sz {w W : World} {b : Nat} {s : ByteArray} {a : Nat} {ty : TypeId} {cs : Array Value} (h : Ahead w W b s a ty cs) : w.heap.size + 2 ≤ W.heap.size := h.res.lt

/-- Six cells stored, one behind the other. -/
abbrev set6 (w : World) (g : Nat) (v0 v1 v2 v3 v4 v5 : Value) : World :=
  (((((w.setCell ⟨g, 0, none⟩ v0).setCell ⟨g, 1, none⟩ v1).setCell ⟨g, 2, none⟩ v2).setCell ⟨g, 3, none⟩ v3).setCell ⟨g, 4, none⟩ v4).setCell ⟨g, 5, none⟩ v5
theorem Own.set6 {w : World} {g : Nat} {ty : TypeId} {a0 a1 a2 a3 a4 a5 : Value} (h : Own w g ty #[a0, a1, a2, a3, a4, a5]) (v0 v1 v2 v3 v4 v5 : Value) :
    Own (set6 w g v0 v1 v2 v3 v4 v5) g ty #[v0, v1, v2, v3, v4, v5] :=
  (((((h.set 0 v0).set 1 v1).set 2 v2).set 3 v3).set 4 v4).set 5 v5
theorem OwnVec.set6 {B : Nat} {w : World} {v : Vc} {l : List Nat} (h : OwnVec B w v l) {g : Nat} (hg : g < B) (v0 v1 v2 v3 v4 v5 : Value) : OwnVec B (set6 w g v0 v1 v2 v3 v4 v5) v l :=
  (((((h.set hg 0 v0).set hg 1 v1).set hg 2 v2).set hg 3 v3).set hg 4 v4).set hg 5 v5
theorem Rd.set6 {w : World} {b : Nat} {s : ByteArray} {a : Nat} (h : Rd w b s a) {g : Nat} (hg : g ≠ b) (v0 v1 v2 v3 v4 v5 : Value) : Rd (set6 w g v0 v1 v2 v3 v4 v5) b s a :=
  (((((h.set hg 0 v0).set hg 1 v1).set hg 2 v2).set hg 3 v3).set hg 4 v4).set hg 5 v5
theorem grown_set6 {a w : World} {b g : Nat} (h : a.grownBy w (some b)) (hg : a.heap.size ≤ g) (v0 v1 v2 v3 v4 v5 : Value) : a.grownBy (set6 w g v0 v1 v2 v3 v4 v5) (some b) :=
  grown_set (grown_set (grown_set (grown_set (grown_set (grown_set h hg 0 v0) hg 1 v1) hg 2 v2) hg 3 v3) hg 4 v4) hg 5 v5

/-- A text of so many bytes. -/
theorem rtext (w : World) (b : Nat) (s : ByteArray) (a n : Nat) (hs : s.size ≤ 1099511627776) (hn : n ≤ 1048576) (h : Rd w b s a) :
    Calls Try.prog 73 #[.pointer (some ⟨b, 0, none⟩), .int .i64 (n : Int)] w (RP (getT n) (fun _ v val => ∃ T : ByteArray, val = .string T ∧ T.data.toList = v) w b s a) := by
  have hin := h.in_
  have hp : pos (n : Int) = n := by unfold pos; split <;> omega
  by_cases hm : a + n ≤ s.size
  · refine (text_yes w b s a n n h hp hm hs).mono ?_
    rintro e w' ⟨rfl, hr, hg⟩
    exact .inl ⟨_, _, a + n, getT_at hm, rfl, ⟨_, rfl, cut_data s a n hm⟩, hr, hg⟩
  · refine (text_no w b s a n h (by omega) (by rw [hp]; omega)).mono ?_
    rintro e w' ⟨rfl, i, rfl⟩
    exact .inr ⟨2, getT_short (by omega), rfl, grown_drewN _ _ _⟩

theorem rservice (w : World) (b : Nat) (s : ByteArray) (a : Nat) (h : Rd w b s a) :
    Calls Try.prog 74 #[.agg #[.pointer (some ⟨b, 0, none⟩)], .int .i64 1, .int .i64 2, .int .i64 1] w (RP (getSm 1 2 1) (fun _ v val => val = .int .i64 v) w b s a) :=
  rsmall w b s a 1 2 1 1 (by decide) (by decide) h
theorem rlength (w : World) (b : Nat) (s : ByteArray) (a : Nat) (h : Rd w b s a) :
    Calls Try.prog 74 #[.agg #[.pointer (some ⟨b, 0, none⟩)], .int .i64 2, .int .i64 1024, .int .i64 3] w (RP (getSm 2 1024 3) (fun _ v val => val = .int .i64 v) w b s a) :=
  rsmall w b s a 2 1024 3 2 (by decide) (by decide) h

set_option maxHeartbeats 2000000 in
theorem rmessage (w : World) (b : Nat) (s : ByteArray) (a : Nat) (f : Int) (hs : s.size ≤ 1099511627776) (h : Rd w b s a) :
    Calls Try.prog 44 #[.agg #[.pointer (some ⟨b, 0, none⟩)], .int .i64 f] w
      (RP (getM f) (fun w' m val => ∃ (T : ByteArray) (v : Vc), val = .agg #[.int .i64 m.f, .int .u32 (m.q : Int), .int .u64 (m.s : Int), .int .i64 m.v, .slice v.a v.n v.c, .string T] ∧ T.data.toList = m.text ∧ OwnVec w.heap.size w' v m.deps) w b s a) := by
  have HS := Lib.hid hs
  clear hs
  go_enter Try.func44, Try.ntmps44
  go_wp2
  have A0 := Ahead.new h 32 62 #[.int .i64 0, .int .u32 0, .int .u64 0, .int .i64 0, .slice none 0 0, .string { data := #[] }]
  go_region_held2 (fun w' => w'.cell? ⟨w.heap.size, 0, none⟩ = some (.pointer (some ⟨b, 0, none⟩))) (first | (with_reducible exact A1.box) | (with_reducible exact A2.box) | (with_reducible exact A3.box) | (with_reducible exact A4.box) | (with_reducible exact A5.box) | (with_reducible exact A6.box) | go_keep)
    (first
      | (go_at_call 46; refine (rfour _ b s a A0.rd).mono ?_; rintro e w1 (⟨q, _, a1, hG, rfl, rfl, hr, hg⟩ | ⟨x, hG, rfl, hg⟩); rotate_left; exact ⟨rfl, .inr ⟨x, by simp only [getM, hG, andG_err], rfl, grown_tr A0.gr hg⟩⟩; (have A1 := A0.go hr hg); (have G1 := Lib.hid hG); clear hG hr hg)
      | (go_at_call 45; refine (rnum _ b s _ 8 8 (by decide) A1.rd).mono ?_; rintro e w2 (⟨st, _, a2, hG, rfl, rfl, hr, hg⟩ | ⟨x, hG, rfl, hg⟩); rotate_left; exact ⟨rfl, .inr ⟨x, by simp only [getM, G1.out, hG, andG_ok, andG_err], rfl, grown_tr A1.gr hg⟩⟩; (have A2 := A1.go hr hg); (have G2 := Lib.hid hG); clear hG hr hg)
      | (go_at_call 74; (with_reducible refine (rservice _ b s a2 A2.rd).mono ?_); rintro e w3 (⟨sv, _, a3, hG, rfl, rfl, hr, hg⟩ | ⟨x, hG, rfl, hg⟩); rotate_left; exact ⟨rfl, .inr ⟨x, by (simp only [getM, G1.out, G2.out, andG_ok]; exact getSm_err hG _), rfl, grown_tr A2.gr hg⟩⟩; obtain ⟨sn, rfl, hsn, hG⟩ := getSm_ok hG; (have A3 := A2.go hr hg); (have G3 := Lib.hid hG); (have N3 : Hid (¬ 2 < sn) := Lib.hid (by omega)); clear hG hr hg hsn)
      | (go_at_call 47; refine (rvector _ b s _ A3.rd).mono ?_; rintro e w4 (⟨ds, _, a4, hG, rfl, ⟨⟨va, vn, vc⟩, rfl, hv⟩, hr, hg⟩ | ⟨x, hG, rfl, hg⟩); rotate_left; exact ⟨rfl, .inr ⟨x, by simp only [getM, G1.out, G2.out, G3.out, hG, andG_ok, andG_err, badG, if_neg N3.out], rfl, grown_tr A3.gr hg⟩⟩; (have V4 := hv.mono A3.sz); (have A4 := A3.go hr hg); (have G4 := Lib.hid hG); clear hG hr hg hv)
      | (go_at_call 74; (with_reducible refine (rlength _ b s a4 A4.rd).mono ?_); rintro e w5 (⟨tv, _, a5, hG, rfl, rfl, hr, hg⟩ | ⟨x, hG, rfl, hg⟩); rotate_left; exact ⟨rfl, .inr ⟨x, by (simp only [getM, G1.out, G2.out, G3.out, G4.out, andG_ok, badG, if_neg N3.out]; exact getSm_err hG _), rfl, grown_tr A4.gr hg⟩⟩; obtain ⟨tn, rfl, htn, hG⟩ := getSm_ok hG; (have V5 := V4.grown hg (by have := A4.lt; omega)); (have A5 := A4.go hr hg); (have G5 := Lib.hid hG); (have N5 : Hid (¬ 1024 < tn) := Lib.hid (by omega)); clear hG hr hg htn V4)
      | (go_at_call 73; refine (rtext _ b s _ tn HS.out (by have := N5.out; omega) A5.rd).mono ?_; rintro e w6 (⟨tl, _, a6, hG, rfl, ⟨T, rfl, hT⟩, hr, hg⟩ | ⟨x, hG, rfl, hg⟩); rotate_left; exact ⟨rfl, .inr ⟨x, by simp only [getM, G1.out, G2.out, G3.out, G4.out, G5.out, hG, andG_ok, andG_err, badG, if_neg N3.out, if_neg N5.out], rfl, grown_tr A5.gr hg⟩⟩; (have V6 := V5.grown hg (by have := A5.lt; omega)); (have A6 := A5.go hr hg); (have G6 := Lib.hid hG); (have HT := Lib.hid hT); clear hG hr hg hT V5; (have c0 := A6.res.at_ 0 _ rfl); (have c1 := A6.res.at_ 1 _ rfl); (have c2 := A6.res.at_ 2 _ rfl); (have c3 := A6.res.at_ 3 _ rfl); (have c4 := A6.res.at_ 4 _ rfl); (have c5 := A6.res.at_ 5 _ rfl); (have f0 := A6.res.free 0); (have f1 := A6.res.free 1); (have f2 := A6.res.free 2); (have f3 := A6.res.free 3); (have f4 := A6.res.free 4); (have f5 := A6.res.free 5)))
  go_wp2
  (try simp only [Exit.inBlock, Exit.then])
  refine bodyPost_ret (results_cell_row rfl _ _ (w.heap.size + 1) 32 #[.int .i64 f, .int .u32 (q : Int), .int .u64 (st : Int), .int .i64 (sn : Int), .slice va vn vc, .string T] (0, 0) _ rfl (A6.res.set6 _ _ _ _ _ _) Try.underlying32 rfl (by kernel_rfl)) rfl ?_
  have hlt := A6.lt
  refine .inl ⟨⟨f, q, st, sn, ds, tl⟩, _, a6, ?_, rfl, ⟨T, ⟨va, vn, vc⟩, rfl, HT.out, ?_⟩, ?_, ?_⟩
  · simp only [getM, G1.out, G2.out, G3.out, G4.out, G5.out, G6.out, andG_ok, badG, if_neg N3.out, if_neg N5.out]
  · exact OwnVec.mono (V6.set6 (by omega) _ _ _ _ _ _) (by omega)
  · exact A6.rd.set6 (by omega) _ _ _ _ _ _
  · exact grown_set6 A6.gr (by omega) _ _ _ _ _ _

end Go.Proofs.Ytibngfpjdookkaa

/- Reading an exchange. -/
set_option linter.unusedVariables false
set_option linter.unusedSimpArgs false
namespace Go.Proofs.Ytibngfpjdookkaa
open Go.RowKit Go.Sort

/-- A key: its number, its process. -/
theorem getK_ok {l : List UInt8} {e : Nat} {p : Int} {r : List UInt8} (h : getC l = .ok (⟨e, p⟩, r)) : ∃ r1, getN 8 l = .ok (e, r1) ∧ getP r1 = .ok (p, r) := by
  unfold getC at h
  obtain ⟨e', r1, h1, h2⟩ := andG_iff.1 h
  obtain ⟨p', r2, h3, h4⟩ := andG_iff.1 h2
  simp only [Except.ok.injEq, Prod.mk.injEq, PC.mk.injEq] at h4
  obtain ⟨⟨rfl, rfl⟩, rfl⟩ := h4
  exact ⟨r1, h1, h3⟩
theorem getK_err {β : Type} {l : List UInt8} {x : Nat} (h : getC l = .error x) (f : Nat → Int → List UInt8 → Got β) : (andG (getN 8 l) fun s r => andG (getP r) fun p r => f s p r) = .error x := by
  unfold getC at h
  cases h1 : getN 8 l with
  | error y => rw [h1, andG_err] at h; cases h; rfl
  | ok q =>
    obtain ⟨e, r1⟩ := q
    rw [h1, andG_ok] at h
    rw [andG_ok]
    cases h2 : getP r1 with
    | error y => rw [h2, andG_err] at h; cases h; rfl
    | ok q => obtain ⟨p, r2⟩ := q; rw [h2, andG_ok] at h; cases h

set_option maxHeartbeats 2000000 in
theorem rexchange (w : World) (b : Nat) (s : ByteArray) (a : Nat) (h : Rd w b s a) :
    Calls Try.prog 49 #[.agg #[.pointer (some ⟨b, 0, none⟩)]] w
      (RP getX (fun w' x val => ∃ v : Vc, val = .agg (encX x v).toArray ∧ OwnVec w.heap.size w' v x.cnt) w b s a) := by
  go_enter Try.func49, Try.ntmps49
  go_wp2
  have A0 := Ahead.new h 50 62 #[.int .i64 0, .int .u64 0, .int .i64 0, .slice none 0 0, .int .u64 0, .int .i64 0]
  go_region_held2 (fun w' => w'.cell? ⟨w.heap.size, 0, none⟩ = some (.pointer (some ⟨b, 0, none⟩))) (first | (with_reducible exact A1.box) | (with_reducible exact A2.box) | (with_reducible exact A3.box) | (with_reducible exact A4.box) | go_keep)
    (first
      | (go_at_call 48; refine (rprocess _ b s a A0.rd).mono ?_; rintro e w1 (⟨xw, _, a1, hG, rfl, rfl, hr, hg⟩ | ⟨x, hG, rfl, hg⟩); rotate_left; exact ⟨rfl, .inr ⟨x, by simp only [getX, hG, andG_err], rfl, grown_tr A0.gr hg⟩⟩; (have A1 := A0.go hr hg); (have G1 := Lib.hid hG); clear hG hr hg)
      | (go_at_call 43; refine (rconf _ b s _ A1.rd).mono ?_; rintro e w2 (⟨⟨ce, cr⟩, _, a2, hG, rfl, rfl, hr, hg⟩ | ⟨x, hG, rfl, hg⟩); rotate_left; exact ⟨rfl, .inr ⟨x, by simp only [getX, G1.out, hG, andG_ok, andG_err], rfl, grown_tr A1.gr hg⟩⟩; (have A2 := A1.go hr hg); (have G2 := Lib.hid hG); clear hG hr hg)
      | (go_at_call 47; refine (rvector _ b s _ A2.rd).mono ?_; rintro e w3 (⟨ds, _, a3, hG, rfl, ⟨⟨va, vn, vc⟩, rfl, hv⟩, hr, hg⟩ | ⟨x, hG, rfl, hg⟩); rotate_left; exact ⟨rfl, .inr ⟨x, by simp only [getX, G1.out, G2.out, hG, andG_ok, andG_err], rfl, grown_tr A2.gr hg⟩⟩; (have V3 := hv.mono A2.sz); (have A3 := A2.go hr hg); (have G3 := Lib.hid hG); clear hG hr hg hv)
      | (go_at_call 78; refine (rkey _ b s _ A3.rd).mono ?_; rintro e w4 (⟨⟨ke, kr⟩, _, a4, hG, rfl, rfl, hr, hg⟩ | ⟨x, hG, rfl, hg⟩); rotate_left; exact ⟨rfl, .inr ⟨x, by (simp only [getX, G1.out, G2.out, G3.out, andG_ok]; exact getK_err hG _), rfl, grown_tr A3.gr hg⟩⟩; (have V4 := V3.grown hg (by have := A3.lt; omega)); (have A4 := A3.go hr hg); obtain ⟨r1, hG, hG'⟩ := getK_ok hG; (have G4 := Lib.hid hG); (have G5 := Lib.hid hG'); clear hG hG' hr hg V3; (have c0 := A4.res.at_ 0 _ rfl); (have c1 := A4.res.at_ 1 _ rfl); (have c2 := A4.res.at_ 2 _ rfl); (have c3 := A4.res.at_ 3 _ rfl); (have c4 := A4.res.at_ 4 _ rfl); (have c5 := A4.res.at_ 5 _ rfl); (have f0 := A4.res.free 0); (have f1 := A4.res.free 1); (have f2 := A4.res.free 2); (have f3 := A4.res.free 3); (have f4 := A4.res.free 4); (have f5 := A4.res.free 5)))
  go_wp2
  (try simp only [Exit.inBlock, Exit.then])
  refine bodyPost_ret (results_cell_row rfl _ _ (w.heap.size + 1) 50 #[.int .i64 xw, .int .u64 (ce : Int), .int .i64 cr, .slice va vn vc, .int .u64 (ke : Int), .int .i64 kr] (0, 0) _ rfl (A4.res.set6 _ _ _ _ _ _) Try.underlying50 rfl (by kernel_rfl)) rfl ?_
  have hlt := A4.lt
  refine .inl ⟨⟨xw, ⟨ce, cr⟩, ds, ke, kr⟩, _, a4, ?_, rfl, ⟨⟨va, vn, vc⟩, rfl, ?_⟩, ?_, ?_⟩
  · simp only [getX, G1.out, G2.out, G3.out, G4.out, G5.out, andG_ok]
  · exact OwnVec.mono (V4.set6 (by omega) _ _ _ _ _ _) (by omega)
  · exact A4.rd.set6 (by omega) _ _ _ _ _ _
  · exact grown_set6 A4.gr (by omega) _ _ _ _ _ _
end Go.Proofs.Ytibngfpjdookkaa

/- Reading many exchanges. -/
set_option linter.unusedVariables false
set_option linter.unusedSimpArgs false
namespace Go.Proofs.Ytibngfpjdookkaa
open Go.RowKit Go.Sort

def zeroX : Value := .agg #[.int .i64 0, .int .u64 0, .int .i64 0, .slice none 0 0, .int .u64 0, .int .i64 0]
theorem Try.infoX : (Try.prog.info? 50).map (fun i => (i.zero, i.size, i.bytes)) = some (some zeroX, 6, 64) := by kernel_rfl
/-- 'make([]api.Exchange, n)': a new row. -/
theorem makesX (n : Nat) (hn : n ≤ 1048576) : ∃ C : Array Value, C.size = n * 6 ∧ ∀ W : World,
    (Instr.makeSlice 33 (.int .i64 (n : Int)) (.int .i64 (n : Int))).run Try.prog W = .ok (.slice (some ⟨W.heap.size, 0, none⟩) n n) (W.alloc (.cells C 50)) := by
  obtain ⟨i0, hi, hz0, hz1, hz2⟩ := info_parts Try.infoX
  refine ⟨madeCells zeroX.cells (n * 6), by simp [madeCells], fun W => ?_⟩
  have h := run_make (P := Try.prog) W 33 50 i0 zeroX Try.underlying33 hi hz0 .i64 .i64 (n : Int) (n : Int) (by omega) (by omega) (by rw [hz2]; omega) (by omega)
  rw [hz1, Int.toNat_natCast] at h
  exact h

/-- Six cells of a longer row stored, from the place p on. -/
def put6 (cur : Array Value) (p : Nat) (v0 v1 v2 v3 v4 v5 : Value) : Array Value :=
  (((((cur.setIfInBounds p v0).setIfInBounds (p + 1) v1).setIfInBounds (p + 2) v2).setIfInBounds (p + 3) v3).setIfInBounds (p + 4) v4).setIfInBounds (p + 5) v5
theorem put6_size (cur : Array Value) (p : Nat) (v0 v1 v2 v3 v4 v5 : Value) : (put6 cur p v0 v1 v2 v3 v4 v5).size = cur.size := by unfold put6; simp
theorem put6_before (cur : Array Value) (p i : Nat) (v0 v1 v2 v3 v4 v5 : Value) (h : i < p) : (put6 cur p v0 v1 v2 v3 v4 v5)[i]? = cur[i]? := by
  unfold put6
  simp only [Array.getElem?_setIfInBounds]
  repeat rw [if_neg (by omega)]
theorem put6_at (cur : Array Value) (p : Nat) (v0 v1 v2 v3 v4 v5 : Value) (hp : p + 6 ≤ cur.size) (c : Nat) (u : Value) (hc : ([v0, v1, v2, v3, v4, v5] : List Value)[c]? = some u) : (put6 cur p v0 v1 v2 v3 v4 v5)[p + c]? = some u := by
  unfold put6
  simp only [Array.getElem?_setIfInBounds, Array.size_setIfInBounds]
  match c, hc with
  | 0, hc => simp at hc; subst hc; simp; omega
  | 1, hc => simp at hc; subst hc; simp; omega
  | 2, hc => simp at hc; subst hc; simp; omega
  | 3, hc => simp at hc; subst hc; simp; omega
  | 4, hc => simp at hc; subst hc; simp; omega
  | 5, hc => simp at hc; subst hc; simp; omega
  | c + 6, hc => simp at hc
abbrev setAt6 (w : World) (g p : Nat) (v0 v1 v2 v3 v4 v5 : Value) : World :=
  (((((w.setCell ⟨g, p, none⟩ v0).setCell ⟨g, p + 1, none⟩ v1).setCell ⟨g, p + 2, none⟩ v2).setCell ⟨g, p + 3, none⟩ v3).setCell ⟨g, p + 4, none⟩ v4).setCell ⟨g, p + 5, none⟩ v5
theorem Own.setAt6 {w : World} {g : Nat} {ty : TypeId} {cur : Array Value} (h : Own w g ty cur) (p : Nat) (v0 v1 v2 v3 v4 v5 : Value) : Own (setAt6 w g p v0 v1 v2 v3 v4 v5) g ty (put6 cur p v0 v1 v2 v3 v4 v5) :=
  (((((h.set p v0).set (p + 1) v1).set (p + 2) v2).set (p + 3) v3).set (p + 4) v4).set (p + 5) v5
theorem OwnVec.setAt6 {B : Nat} {w : World} {v : Vc} {l : List Nat} (h : OwnVec B w v l) {g : Nat} (hg : g < B) (p : Nat) (v0 v1 v2 v3 v4 v5 : Value) : OwnVec B (setAt6 w g p v0 v1 v2 v3 v4 v5) v l :=
  (((((h.set hg p v0).set hg (p + 1) v1).set hg (p + 2) v2).set hg (p + 3) v3).set hg (p + 4) v4).set hg (p + 5) v5
theorem Rd.setAt6 {w : World} {b : Nat} {s : ByteArray} {a : Nat} (h : Rd w b s a) {g : Nat} (hg : g ≠ b) (p : Nat) (v0 v1 v2 v3 v4 v5 : Value) : Rd (setAt6 w g p v0 v1 v2 v3 v4 v5) b s a :=
  (((((h.set hg p v0).set hg (p + 1) v1).set hg (p + 2) v2).set hg (p + 3) v3).set hg (p + 4) v4).set hg (p + 5) v5
theorem grown_setAt6 {a w : World} {b g : Nat} (h : a.grownBy w (some b)) (hg : a.heap.size ≤ g) (p : Nat) (v0 v1 v2 v3 v4 v5 : Value) : a.grownBy (setAt6 w g p v0 v1 v2 v3 v4 v5) (some b) :=
  grown_set (grown_set (grown_set (grown_set (grown_set (grown_set h hg p v0) hg (p + 1) v1) hg (p + 2) v2) hg (p + 3) v3) hg (p + 4) v4) hg (p + 5) v5
theorem cell_set {w : World} {g h j i : Nat} {x v : Value} (hc : w.cell? ⟨h, i, none⟩ = some v) (hh : h ≠ g) : (w.setCell ⟨g, j, none⟩ x).cell? ⟨h, i, none⟩ = some v := by
  rw [World.cell?_of_block (heap_setCell_other w ⟨g, j, none⟩ h x hh)]; exact hc
theorem cell_setAt6 {w : World} {h i : Nat} {v : Value} (hc : w.cell? ⟨h, i, none⟩ = some v) {g : Nat} (hh : h ≠ g) (p : Nat) (v0 v1 v2 v3 v4 v5 : Value) : (setAt6 w g p v0 v1 v2 v3 v4 v5).cell? ⟨h, i, none⟩ = some v :=
  cell_set (cell_set (cell_set (cell_set (cell_set (cell_set hc hh) hh) hh) hh) hh) hh

/-- Exchanges that are being read: k of n. -/
structure XsSt (w W : World) (b : Nat) (s : ByteArray) (l0 : List UInt8) (g n k : Nat) (xs : List PX) (cur : Array Value) (a : Nat) : Prop where
  rd : Rd W b s a
  box : W.cell? ⟨w.heap.size, 0, none⟩ = some (.pointer (some ⟨b, 0, none⟩))
  row : Own W g 50 cur
  gr : w.grownBy W (some b)
  lt : b < w.heap.size
  ge : w.heap.size < g
  many : ManyAt getX l0 k xs (restB s a)
  size : cur.size = n * 6
  rows : ∀ (j : Nat) (x : PX), xs[j]? = some x → ∃ vc, OwnVec (g + 1) W vc x.cnt ∧ ∀ (c : Nat) (u : Value), (encX x vc)[c]? = some u → cur[j * 6 + c]? = some u
theorem XsSt.go {w W W' : World} {b : Nat} {s : ByteArray} {l0 : List UInt8} {g n k : Nat} {xs : List PX} {cur : Array Value} {a a' : Nat} {x : PX} {v : Vc} (h : XsSt w W b s l0 g n k xs cur a)
    (hG : getX (restB s a) = .ok (x, restB s a')) (hv : OwnVec W.heap.size W' v x.cnt) (hr : Rd W' b s a') (hg : W.grownBy W' (some b)) (hk : k < n) :
    XsSt w (setAt6 W' g (k * 6) (.int .i64 x.w) (.int .u64 (x.old.e : Int)) (.int .i64 x.old.r) (.slice v.a v.n v.c) (.int .u64 (x.ls : Int)) (.int .i64 x.lf)) b s l0 g n (k + 1) (xs ++ [x])
      (put6 cur (k * 6) (.int .i64 x.w) (.int .u64 (x.old.e : Int)) (.int .i64 x.old.r) (.slice v.a v.n v.c) (.int .u64 (x.ls : Int)) (.int .i64 x.lf)) a' ∧
      (∀ c, c < 6 → ∃ z, W'.cell? ⟨g, k * 6 + c, none⟩ = some z) ∧ (∀ c, W'.frozen? ⟨g, c, none⟩ = false) ∧ W'.cell? ⟨w.heap.size, 0, none⟩ = some (.pointer (some ⟨b, 0, none⟩)) := by
  have hlen := h.many.len
  have hge := h.ge
  have hl := h.lt
  have hne : g ≠ b := by omega
  have hbx : W'.cell? ⟨w.heap.size, 0, none⟩ = some (.pointer (some ⟨b, 0, none⟩)) := cell_grown_by hg (by show w.heap.size ≠ b; omega) h.box
  have ho : Own W' g 50 cur := h.row.grown hg (by intro e; cases e; exact hne rfl)
  have hsz := h.size
  have hp : k * 6 + 6 ≤ cur.size := by omega
  have hrow := h.row.lt
  refine ⟨⟨hr.setAt6 hne _ _ _ _ _ _ _, cell_setAt6 hbx (by omega) _ _ _ _ _ _ _, ho.setAt6 _ _ _ _ _ _ _, grown_setAt6 (grown_tr h.gr hg) (by omega) _ _ _ _ _ _ _, h.lt, h.ge, h.many.step hG, by rw [put6_size]; exact hsz, ?_⟩, fun c hc => ?_, ho.free, hbx⟩
  · intro j y hj
    by_cases hjk : j < k
    · rw [List.getElem?_append_left (by omega)] at hj
      obtain ⟨vc, hvc, hu⟩ := h.rows j y hj
      refine ⟨vc, (hvc.grown hg (by omega)).setAt6 (by omega) _ _ _ _ _ _ _, fun c u hc => ?_⟩
      have hc6 : c < 6 := (List.getElem?_eq_some_iff.1 hc).1
      rw [put6_before _ _ _ _ _ _ _ _ _ (by omega)]
      exact hu c u hc
    · rw [List.getElem?_append_right (by omega)] at hj
      obtain rfl : j = k := by
        have := (List.getElem?_eq_some_iff.1 hj).1
        simp at this; omega
      rw [hlen, Nat.sub_self] at hj
      obtain rfl : x = y := by simpa using hj
      exact ⟨v, (hv.mono (by omega)).setAt6 (by omega) _ _ _ _ _ _ _, fun c u hc => put6_at _ _ _ _ _ _ _ _ hp c u hc⟩
  · obtain ⟨z, hz⟩ : ∃ z, cur[k * 6 + c]? = some z := ⟨_, Array.getElem?_eq_getElem (by omega)⟩
    exact ⟨z, ho.at_ _ _ hz⟩

set_option maxHeartbeats 2000000 in
theorem rexchanges (w : World) (b : Nat) (s : ByteArray) (a : Nat) (h : Rd w b s a) :
    Calls Try.prog 50 #[.agg #[.pointer (some ⟨b, 0, none⟩)]] w (RP getL (fun w' l val => ∃ v : Vc, val = .slice v.a v.n v.c ∧ OwnXs w.heap.size w' v l) w b s a) := by
  have hlt := h.lt
  have H := h.alloc' (.cells #[.pointer (some ⟨b, 0, none⟩)] 62)
  have hg0 := grown_alloc w (.cells #[.pointer (some ⟨b, 0, none⟩)] 62) (some b)
  have hbx : (w.alloc (.cells #[.pointer (some ⟨b, 0, none⟩)] 62)).cell? ⟨w.heap.size, 0, none⟩ = some (.pointer (some ⟨b, 0, none⟩)) := by simp
  have hz0 : (w.alloc (.cells #[.pointer (some ⟨b, 0, none⟩)] 62)).heap.size = w.heap.size + 1 := by simp
  go_enter Try.func50, Try.ntmps50
  go_wp2_with fail
  refine (rsmall _ b s a 1 64 3 1 (by decide) (by decide) H).mono ?_
  rintro e w1 (⟨v, _, a1, hG, rfl, rfl, hr, hg⟩ | ⟨q, hG, rfl, hg⟩)
  case inr => exact ⟨rfl, .inr ⟨q, getSm_err hG (fun n r => getXs n r), rfl, grown_tr hg0 hg⟩⟩
  obtain ⟨n, rfl, hn, hG1⟩ := getSm_ok hG
  obtain ⟨C, hC, hmk⟩ := makesX n (by omega)
  have hb1 : w1.cell? ⟨w.heap.size, 0, none⟩ = some (.pointer (some ⟨b, 0, none⟩)) := cell_grown_by hg (by show w.heap.size ≠ b; omega) hbx
  have hz1 := hg.size
  rw [hz0] at hz1
  have S0 : XsSt w (w1.alloc (.cells C 50)) b s (restB s a1) w1.heap.size n 0 [] C a1 :=
    ⟨hr.alloc' _, cell_later ((Grw.refl w1).alloc _).below hb1, Own.new _ _ _, grown_tr (grown_tr hg0 hg) (grown_alloc _ _ _), hlt, by omega, ManyAt.begin _ _, hC, fun j x hj => by simp at hj⟩
  have HG := Lib.hid hG1
  clear hG hG1 hr hg hg0 H hbx hb1 hz0 hC
  go_wp2_with fail
  clear hmk
  generalize hg1 : w1.heap.size = g at *
  clear hg1
  generalize w1.alloc (.cells C 50) = w2 at *
  have HN : (n : Int) ≤ 64 := by omega
  go_loopw [10] (fun si wr => ∃ (k ak : Nat) (xs : List PX) (cur : Array Value), k ≤ n ∧ si = .int .i64 (k : Int) ∧ XsSt w wr b s (restB s a1) g n k xs cur ak) (fun si _ => n - (intOf si).toNat)
  case atStart => exact ⟨0, a1, [], C, Nat.zero_le _, rfl, S0⟩
  case round =>
    clear S0
    obtain ⟨k, ak, xs, cur, hk, rfl, S⟩ := hrel
    have hbox := S.box
    by_cases hlt : k < n
    · go_wp2_with fail
      refine (rexchange _ b s ak S.rd).mono ?_
      rintro e w3 (⟨x, _, a3, hG, rfl, ⟨v, rfl, hv⟩, hr, hg⟩ | ⟨q, hG, rfl, hg⟩)
      case inr =>
        refine ⟨rfl, .inr ⟨q, ?_, rfl, grown_tr S.gr hg⟩⟩
        show andG (getN 1 (restB s a)) _ = _
        rw [HG.out, andG_ok, badG, if_neg (by omega), getXs_many]
        exact S.many.error hlt hG
      obtain ⟨S2, hc, hf, hb3⟩ := S.go hG hv hr hg hlt
      obtain ⟨z0, c0⟩ := hc 0 (by decide)
      obtain ⟨z1, c1⟩ := hc 1 (by decide)
      obtain ⟨z2, c2⟩ := hc 2 (by decide)
      obtain ⟨z3, c3⟩ := hc 3 (by decide)
      obtain ⟨z4, c4⟩ := hc 4 (by decide)
      obtain ⟨z5, c5⟩ := hc 5 (by decide)
      have f0 := hf (k * 6)
      have f1 := hf (k * 6 + 1)
      have f2 := hf (k * 6 + 2)
      have f3 := hf (k * 6 + 3)
      have f4 := hf (k * 6 + 4)
      have f5 := hf (k * 6 + 5)
      rw [Nat.add_zero] at c0
      have HS2 := Lib.hid S2
      clear S hbox hr hg hG hv hc hf S2
      obtain ⟨xw, ⟨ce, cr⟩, cnt, ls, lf⟩ := x
      obtain ⟨va, vn, vc⟩ := v
      simp only [encX]
      go_wp2_with fail
      go_roundw
      case rel => exact ⟨k + 1, a3, _, _, by omega, by go_num, HS2.out⟩
      case measure => simp [intOf]; omega
    · obtain rfl : k = n := by omega
      go_wp2
      go_ret
      have hl := S.many.len
      refine .inl ⟨xs, _, ak, ?_, rfl, ⟨⟨some ⟨g, 0, none⟩, k, k⟩, rfl, ⟨hl, .inr ⟨g, cur, rfl, by have := S.ge; omega, S.row, fun j x hj => ?_⟩⟩⟩, S.rd, S.gr⟩
      · show andG (getN 1 (restB s a)) _ = _
        rw [HG.out, andG_ok, badG, if_neg (by omega), getXs_many]
        exact S.many.done
      · obtain ⟨vc, hv, hu⟩ := S.rows j x hj
        exact ⟨vc, hv.mono (by have := S.ge; omega), hu⟩
end Go.Proofs.Ytibngfpjdookkaa
