/- Of. -/
import Derived.Test.YtcjbjcojmjfmaaaEarForget
import Derived.Deep.RegionHeld3
set_option linter.unusedVariables false
set_option linter.unusedSimpArgs false
namespace Go.Proofs.Ytcjbjcojmjfmaaa
open Go.RowKit Go.Sort

theorem ebelowRow {B : Nat} {a w : World} (h : Go.RowKit.Below B a w) (g : Nat) (hg : B ≤ g) (cs : Array Value) : Go.RowKit.Below B a (w.setRow g cs) :=
  ⟨h.os, h.tape, h.output, by rw [size_setRow]; exact h.size, fun k hk => (setRow_other _ _ _ _ (by omega)).trans (h.block k hk)⟩
theorem BtB.new (w : World) (b : Bt) : BtB (w.alloc (.cells #[.int .u64 (b.ce : Int), .int .i64 b.cr, .int .u64 (b.pe : Int), .int .i64 b.pr, .int .u64 (b.ep : Int)] 33)) w.heap.size b := Own.new w _ _
theorem BtB.zero (w : World) : BtB (w.alloc (.cells #[.int .u64 0, .int .i64 0, .int .u64 0, .int .i64 0, .int .u64 0] 33)) w.heap.size bt0 := Own.new w _ _
theorem BtB.lt {w : World} {g : Nat} {b : Bt} (h : BtB w g b) : g < w.heap.size := h.own.lt
theorem BtB.put {w : World} {g : Nat} {b : Bt} (h : BtB w g b) (b' : Bt) : BtB (w.setRow g #[.int .u64 (b'.ce : Int), .int .i64 b'.cr, .int .u64 (b'.pe : Int), .int .i64 b'.pr, .int .u64 (b'.ep : Int)]) g b' := setRow_heap _ _ _ _ _ _ h
theorem BtB.below {w w' : World} {g : Nat} {b : Bt} (h : BtB w g b) (hb : Below w.heap.size w w') : BtB w' g b := (hb.block g h.lt).trans h
theorem BtB.grown {w w' : World} {g : Nat} {b : Bt} {o : Option Nat} (h : BtB w g b) (hb : w.grownBy w' o) (hk : some g ≠ o) : BtB w' g b := (hb.block g h.lt hk).trans h
theorem BtB.d0 {w : World} {g : Nat} {b : Bt} (h : BtB w g b) : w.cell? ⟨g, 0, none⟩ = some (.int .u64 (b.ce : Int)) := h.own.at_ 0 _ rfl
theorem BtB.d1 {w : World} {g : Nat} {b : Bt} (h : BtB w g b) : w.cell? ⟨g, 1, none⟩ = some (.int .i64 b.cr) := h.own.at_ 1 _ rfl
theorem BtB.d2 {w : World} {g : Nat} {b : Bt} (h : BtB w g b) : w.cell? ⟨g, 2, none⟩ = some (.int .u64 (b.pe : Int)) := h.own.at_ 2 _ rfl
theorem BtB.d3 {w : World} {g : Nat} {b : Bt} (h : BtB w g b) : w.cell? ⟨g, 3, none⟩ = some (.int .i64 b.pr) := h.own.at_ 3 _ rfl
theorem BtB.d4 {w : World} {g : Nat} {b : Bt} (h : BtB w g b) : w.cell? ⟨g, 4, none⟩ = some (.int .u64 (b.ep : Int)) := h.own.at_ 4 _ rfl
theorem BtB.there {w : World} {g : Nat} {b : Bt} (h : BtB w g b) : w.there g 0 5 := fun j hj => by
  have hl : j < (#[Value.int .u64 (b.ce : Int), .int .i64 b.cr, .int .u64 (b.pe : Int), .int .i64 b.pr, .int .u64 (b.ep : Int)] : Array Value).size := hj
  rw [Nat.zero_add]
  exact ⟨by rw [h.own.at_ j _ (Array.getElem?_eq_getElem hl)]; rfl, h.own.free j⟩
theorem BtB.putCells {w : World} {g : Nat} {b : Bt} (h : BtB w g b) (b' : Bt) : BtB (w.setCells g 0 (encB b')) g b' := by
  obtain ⟨cur, h1, h2⟩ := heap_setCells (encB b') 0 w _ h.own.is (by simp [encB])
  have : cur = #[.int .u64 (b'.ce : Int), .int .i64 b'.cr, .int .u64 (b'.pe : Int), .int .i64 b'.pr, .int .u64 (b'.ep : Int)] := by
    apply Array.ext'
    rw [h2]
    simp [encB]
  rw [this] at h1
  exact h1
/-- Take an operation first; its slot by its number. -/
theorem etake {P : Program} {md : Region.Mode} {ops : Array Oper} {Q : Exit → Act → World → Prop} {S : World → Prop} {i : Nat} {oi : Oper} {v : Value} {fuel : Nat} {listed : Array Bool} {a : Act} {w : World} (d : Nat) (hi : ops[i]? = some oi) (hd : oi.dst = some d)
    (hs : Region.noSelect ops = true) (hf : Region.free md ops listed i = true) (hr : (Region.ready md ops listed).contains i = true)
    (hQ : ∀ c a w, Q (.panic c) (a.put oi.dst v) w → Q (.panic c) a w) (hy : YieldsIf P ops S oi v a) (hS : S w)
    (h : wpAnyH P md ops Q S fuel (listed.setIfInBounds i true) (a.put (some d) v) w) : wpAnyH P md ops Q S (fuel + 1) listed a w :=
  wpAnyH_take hi hs hf hr hQ hy hS (by rw [hd]; exact h)
/-- A beat stored, whole. -/
theorem store_bt {ops : Array Oper} {rest : List Oper} {o : Oper} {A : Act} {w : World} {Q : Exit → Act → World → Prop} (hgd : o.guard = none) (x y : Operand) (ho : o.op = .store 33 x y)
    (g : Nat) (b : Bt) (hx : A.eval x = .pointer (some ⟨g, 0, none⟩)) (hy : A.eval y = .agg #[.int .u64 (b.ce : Int), .int .i64 b.cr, .int .u64 (b.pe : Int), .int .i64 b.pr, .int .u64 (b.ep : Int)])
    {b0 : Bt} (hg : BtB w g b0) (h : wpList Try.prog ops Q rest (A.put o.dst undef) (w.setRow g #[.int .u64 (b.ce : Int), .int .i64 b.cr, .int .u64 (b.pe : Int), .int .i64 b.pr, .int .u64 (b.ep : Int)])) : wpList Try.prog ops Q (o :: rest) A w :=
  wpList_store_row hgd 33 x y ho g _ hx hy 33 _ hg beat_size rfl (bt_one b) h
theorem load_bt {ops : Array Oper} {rest : List Oper} {o : Oper} {A : Act} {w : World} {Q : Exit → Act → World → Prop} (hgd : o.guard = none) (x : Operand) (ho : o.op = .load 33 x)
    (g : Nat) (hx : A.eval x = .pointer (some ⟨g, 0, none⟩)) {b : Bt} (hg : BtB w g b)
    (h : wpList Try.prog ops Q rest (A.put o.dst (.agg #[.int .u64 (b.ce : Int), .int .i64 b.cr, .int .u64 (b.pe : Int), .int .i64 b.pr, .int .u64 (b.ep : Int)])) w) : wpList Try.prog ops Q (o :: rest) A w :=
  wpList_load_row hgd 33 x ho g hx 33 _ _ _ hg Try.underlying33 rfl beat_size h
/-- Handed back: what a beat's block holds, and a slot. -/
theorem results_bt {fn : Func} {p u : Tmp} (h : fn.results = #[.cell p 33, .tmp u]) (tmps : Array Value) (w : World) (g : Nat) {b : Bt}
    (hp : tmps.getD p undef = .pointer (some ⟨g, 0, none⟩)) (hg : BtB w g b) :
    (results fn tmps).run Try.prog w = .ok (.tuple #[.agg #[.int .u64 (b.ce : Int), .int .i64 b.cr, .int .u64 (b.pe : Int), .int .i64 b.pr, .int .u64 (b.ep : Int)], tmps.getD u undef]) w := by
  rw [results_cell_tmp h, hp]
  have hl := run_loadVar_row (P := Try.prog) w g 33 33 #[.int .u64 (b.ce : Int), .int .i64 b.cr, .int .u64 (b.pe : Int), .int .i64 b.pr, .int .u64 (b.ep : Int)] (0, 0) _ hg Try.underlying33 rfl beat_size
  simp [asAddr, hl, Result.andThen]

set_option maxHeartbeats 1000000 in
theorem eof {w : World} {g : Nat} {E : Er} (h : EarAt w g E) (p : Int) (p0 : -9223372036854775808 ≤ p) (p1 : p ≤ 9223372036854775807) :
    Calls Try.prog 14 #[.pointer (some ⟨g, 0, none⟩), .int .i64 p] w fun e w' => e = .returned (.tuple #[.agg #[.int .u64 ((ofB E p).ce : Int), .int .i64 (ofB E p).cr, .int .u64 ((ofB E p).pe : Int), .int .i64 (ofB E p).pr, .int .u64 ((ofB E p).ep : Int)], .bool (ofO E p)]) ∧ Below w.heap.size w w' := by
  have L := ((Grw.refl w).alloc (.cells #[.int .u64 0, .int .i64 0, .int .u64 0, .int .i64 0, .int .u64 0] 33)).below
  have h1 := h.below L
  have Z := BtB.zero w
  have hg := h.lt
  have hot := h.ok.ot
  clear h
  generalize hW : w.alloc (.cells #[.int .u64 0, .int .i64 0, .int .u64 0, .int .i64 0, .int .u64 0] 33) = W at *
  have M := has_any E.ot p W hot p0 p1
  have c1 := h1.c1
  cases hm : mem E.ot p with
  | false =>
    rw [show ofB E p = bt0 by unfold ofB; rw [if_neg (by rw [hm]; decide)], show ofO E p = false by unfold ofO; rw [hm]; rfl]
    rw [hm] at M
    have HB := Lib.hid (ebelowRow L w.heap.size (Nat.le_refl _) #[.int .u64 (bt0.ce : Int), .int .i64 bt0.cr, .int .u64 (bt0.pe : Int), .int .i64 bt0.pr, .int .u64 (bt0.ep : Int)])
    have HW := Lib.hid hW
    clear h1 hm L hW
    go_enter Try.func14, Try.ntmps14
    go_upto_region 1 with fail
    rw [HW.out]
    go_wp2_with (first | (go_at_call 22; refine M.mono ?_; rintro e w' ⟨rfl, rfl⟩) | (refine store_bt rfl (.tmp 4) (.tmp 14) rfl w.heap.size bt0 rfl rfl Z ?_))
    (try simp only [Exit.inBlock, Exit.then])
    exact bodyPost_ret (results_bt rfl _ _ w.heap.size rfl (Z.put bt0)) rfl ⟨rfl, HB.out⟩
  | true =>
    obtain ⟨k, rfl, hk, hbt⟩ := mem_bit hm
    rw [show ofB E k = (E.recs k).b by unfold ofB; rw [if_pos hm]; rfl, show ofO E k = (E.recs k).told by unfold ofO; rw [hm]; rfl]
    rw [hm] at M
    have KB : Hid (∀ w', EarAt w' g E → w'.rangeAt g (4 + k * 8 + 2) (encB (E.recs k).b)) := Lib.hid fun w' h => h.part k hk 2 _ (fun j v hj => by
      have hj5 : j < 5 := (List.getElem?_eq_some_iff.1 hj).1
      rw [← hj]
      rcases j with _ | _ | _ | _ | _ | j
      · rfl
      · rfl
      · rfl
      · rfl
      · rfl
      · omega)
    have KD : Hid (∀ w', EarAt w' g E → w'.cell? ⟨g, 4 + k * 8 + 7, none⟩ = some (.bool (E.recs k).told)) := Lib.hid fun w' h => h.cl k hk 7 _ rfl
    generalize (E.recs k).b = b at *
    generalize (E.recs k).told = d at *
    have hxi : (k : Int) < 64 := by omega
    have Z2 : BtB W.drew w.heap.size bt0 := Z
    have HB := Lib.hid (L.trans ((Grw.refl W).drew.below.mono L.size))
    have HW := Lib.hid hW
    clear hm L hW hbt
    go_enter Try.func14, Try.ntmps14
    go_upto_region 1 with fail
    rw [HW.out]
    go_upto_region 4 with (go_at_call 22; refine M.mono ?_; rintro e w' ⟨rfl, rfl⟩)
    refine wp_region_held_drew (S := fun w' => EarAt w' g E) (by kernel_rfl) h1.drew (fun hHeld => ?_)
    generalize hV : W.drew = V at *
    refine etake (i := 0) (v := .pointer (some ⟨g, 4 + k * 8, none⟩)) 20 rfl (by kernel_rfl) (by kernel_rfl) (by kernel_rfl) (by kernel_rfl) (fun _ _ _ h => h) (.inl ⟨by kernel_rfl, fun w' hS => by (go_simp)⟩) hHeld ?_
    (try simp only [Act.put, List.setIfInBounds_toArray, List.set_cons_zero, List.set_cons_succ])
    refine etake (i := 1) (v := .pointer (some ⟨g, 4 + k * 8, none⟩)) 21 rfl (by kernel_rfl) (by kernel_rfl) (by kernel_rfl) (by kernel_rfl) (fun _ _ _ h => h) (.inl ⟨by kernel_rfl, fun w' hS => by (go_simp)⟩) hHeld ?_
    (try simp only [Act.put, List.setIfInBounds_toArray, List.set_cons_zero, List.set_cons_succ])
    refine etake (i := 2) (v := .pointer (some ⟨g, 4 + k * 8 + 2, none⟩)) 22 rfl (by kernel_rfl) (by kernel_rfl) (by kernel_rfl) (by kernel_rfl) (fun _ _ _ h => h) (.inl ⟨by kernel_rfl, fun w' hS => by (go_simp)⟩) hHeld ?_
    (try simp only [Act.put, List.setIfInBounds_toArray, List.set_cons_zero, List.set_cons_succ])
    refine etake (i := 3) (v := .agg #[.int .u64 (b.ce : Int), .int .i64 b.cr, .int .u64 (b.pe : Int), .int .i64 b.pr, .int .u64 (b.ep : Int)]) 23 rfl (by kernel_rfl) (by kernel_rfl) (by kernel_rfl) (by kernel_rfl) (fun _ _ _ h => h) (yieldsIf_load_mid (by kernel_rfl) 33 (.tmp 22) rfl g (4 + k * 8 + 2) (by kernel_rfl) (encB b) _ (fun w' hS => KB.out w' hS) Try.underlying33 rfl beat_size) hHeld ?_
    (try simp only [Act.put, List.setIfInBounds_toArray, List.set_cons_zero, List.set_cons_succ])
    refine etake (i := 4) (v := .pointer (some ⟨g, 4 + k * 8, none⟩)) 24 rfl (by kernel_rfl) (by kernel_rfl) (by kernel_rfl) (by kernel_rfl) (fun _ _ _ h => h) (.inl ⟨by kernel_rfl, fun w' hS => by (go_simp)⟩) hHeld ?_
    (try simp only [Act.put, List.setIfInBounds_toArray, List.set_cons_zero, List.set_cons_succ])
    refine etake (i := 5) (v := .pointer (some ⟨g, 4 + k * 8, none⟩)) 25 rfl (by kernel_rfl) (by kernel_rfl) (by kernel_rfl) (by kernel_rfl) (fun _ _ _ h => h) (.inl ⟨by kernel_rfl, fun w' hS => by (go_simp)⟩) hHeld ?_
    (try simp only [Act.put, List.setIfInBounds_toArray, List.set_cons_zero, List.set_cons_succ])
    refine etake (i := 6) (v := .pointer (some ⟨g, 4 + k * 8 + 7, none⟩)) 26 rfl (by kernel_rfl) (by kernel_rfl) (by kernel_rfl) (by kernel_rfl) (fun _ _ _ h => h) (.inl ⟨by kernel_rfl, fun w' hS => by (go_simp)⟩) hHeld ?_
    (try simp only [Act.put, List.setIfInBounds_toArray, List.set_cons_zero, List.set_cons_succ])
    refine etake (i := 7) (v := .bool d) 27 rfl (by kernel_rfl) (by kernel_rfl) (by kernel_rfl) (by kernel_rfl) (fun _ _ _ h => h) (.inl ⟨by kernel_rfl, fun w' hS => by (have c := KD.out w' hS; go_simp)⟩) hHeld ?_
    (try simp only [Act.put, List.setIfInBounds_toArray, List.set_cons_zero, List.set_cons_succ])
    have h3 := hHeld
    refine wpAnyH_ready (rs := [8]) (by kernel_rfl) (by simp) (AllReadyH.cons rfl (fun K hK => ?_) AllReadyH.nil)
    clear hHeld
    rw [if_pos (by kernel_rfl)]
    refine wp_store_mid 33 (.tmp 4) (.tmp 23) rfl w.heap.size 0 #[.int .u64 (b.ce : Int), .int .i64 b.cr, .int .u64 (b.pe : Int), .int .i64 b.pr, .int .u64 (b.ep : Int)] (by kernel_rfl) (by kernel_rfl) Z2.there beat_size (bt_one b) ?_
    have hZ := Lib.hid (Z2.putCells b)
    have h4 : EarAt (V.setCells w.heap.size 0 (encB b)) g E := h3.grown (egrown_cells _ _ _ _) (by intro e; cases e; omega)
    have HBB := Lib.hid (HB.out.grown (egrown_cells w.heap.size (encB b) 0 V) HB.out.size (fun k hk => by cases hk; exact Nat.le_refl _))
    refine hK.out _ _ h4 (fun hHeld => ?_)
    clear hK K h3 h4
    (try simp only [Act.put, List.setIfInBounds_toArray, List.set_cons_zero, List.set_cons_succ])
    refine etake (i := 9) (v := .bool d) 5 rfl (by kernel_rfl) (by kernel_rfl) (by kernel_rfl) (by kernel_rfl) (fun _ _ _ h => h) (.inl ⟨by kernel_rfl, fun w' hS => by (go_simp)⟩) hHeld ?_
    (try simp only [Act.put, List.setIfInBounds_toArray, List.set_cons_zero, List.set_cons_succ])
    refine wpAnyH_done (by kernel_rfl) ?_ _
    clear hHeld KB KD
    go_wp2
    (try simp only [Exit.inBlock, Exit.then])
    exact bodyPost_ret (results_bt rfl _ _ w.heap.size rfl hZ.out) rfl ⟨rfl, HBB.out⟩
end Go.Proofs.Ytcjbjcojmjfmaaa
