/- Plans: how far each one's messages go, once nothing more is given up (the loop by goto). -/
import Derived.Test.YthgdiihibjnhoaaPlLean
import Derived.Test.YthgdiihibjnhoaaSOwn
import Derived.WalkMore
import Derived.ScopeJumps
import Derived.Laws.StructEq
import Derived.Deep.MidRow
set_option linter.unusedVariables false
set_option maxRecDepth 100000
set_option linter.unusedSimpArgs false
namespace Go.Proofs.Ythgdiihibjnhoaa
open Go.RowKit Go.Sort Go.Shelf

theorem updW_self (f : Nat → Wh) (p : Nat) : updW f p (f p) = f := by
  funext q; unfold updW; split
  · subst_vars; rfl
  · rfl
theorem rowW_cut (f : Nat → Wh) (p : Nat) (hp : p < 64) : rowW f = (rowW f).take (p * 2) ++ encWh (f p) ++ (rowW f).drop (p * 2 + 2) := by
  rw [rowW_set f p hp (f p), updW_self]
theorem index_whs (f : Nat → Wh) (k : Nat) (hk : k < 64) (w : World) : (Instr.index 58 (.agg (rowW f).toArray) (.int .i64 (k : Int))).run Try.prog w = .ok (.agg #[.int .u32 (f k).n, .int .i64 (f k).h]) w := by
  have hx : (rowW f).toArray.extract (k * 2) (k * 2 + 2) = #[.int .u32 (f k).n, .int .i64 (f k).h] := by
    apply Array.ext'
    rw [List.extract_toArray, List.extract_eq_take_drop]
    show List.take _ (List.drop _ _) = encWh (f k)
    have hA : ((rowW f).take (k * 2)).length = k * 2 := by rw [List.length_take, rowW_length]; omega
    rw [rowW_cut f k hk, List.append_assoc, List.drop_left' hA, show k * 2 + 2 - k * 2 = 2 by omega, List.take_left' (encWh_length _)]
  have hk' : 0 ≤ (k : Int) ∧ (k : Int) < ((64 : Nat) : Int) := by omega
  have ha : (isAgg 57).run Try.prog w = .ok true w := Try.isAgg57 w
  have hs : (sizeOf 57).run Try.prog w = .ok 2 w := Try.sizeOf57 w
  simp only [Instr.index, asIntOf, Sem.run_bind, Sem.run_pure, Result.andThen_ok, run_underlying Try.underlying58]
  rw [if_pos hk']
  simp only [Sem.run_bind, Sem.run_pure, Result.andThen_ok, hs, part, ha, if_true, Int.toNat_natCast, hx]
theorem step_index15 {ops : Array Oper} {rest : List Oper} {o : Oper} {a : Act} {w : World} {Q : Exit → Act → World → Prop} (hgd : o.guard = none) (ty : TypeId) (x y : Operand) (ho : o.op = .index ty x y)
    (vx vy v : Value) (hx : a.eval x = vx) (hy : a.eval y = vy) (hb : (Instr.index ty vx vy).run Try.prog w = .ok v w)
    (h : wpList Try.prog ops Q rest (a.put o.dst v) w) : wpList Try.prog ops Q (o :: rest) a w :=
  wpList_plain hgd fun _ hK => by
    unfold Oper.wp execOp
    simp only [ho, hx, hy, Sem.run_bind, Sem.run_pure, Result.andThen_ok, hb]
    exact hK _ _ h
/-- The ends, laid up to k. -/
def endUp (f : Nat → Wh) (k : Nat) : Nat → Int := fun q => if q < k then (f q).n + 1 else 0
theorem endUp_zero (f : Nat → Wh) : endUp f 0 = fun _ => 0 := by funext q; unfold endUp; rw [if_neg (by omega)]
theorem endUp_next (f : Nat → Wh) (k : Nat) : updE (endUp f k) k ((f k).n + 1) = endUp f (k + 1) := by
  funext q; unfold updE endUp
  by_cases e : q = k
  · subst e; rw [if_pos rfl, if_pos (by omega)]
  · rw [if_neg e]
    by_cases h : q < k
    · rw [if_pos h, if_pos (by omega)]
    · rw [if_neg h, if_neg (by omega)]
theorem rowE_ext {e e' : Nat → Int} (h : ∀ q, q < 64 → e q = e' q) : rowF vI64 e = rowF vI64 e' := by
  unfold rowF
  exact List.map_congr_left fun q hq => by rw [h q (List.mem_range.1 hq)]
/-- A message's numbers are of their kinds. -/
structure MgN (w : World) (m : Mg) : Prop where
  f0 : -9223372036854775808 ≤ m.f
  f1 : m.f ≤ 9223372036854775807
  q0 : 0 ≤ m.q
  q1 : m.q < 4294967296
  at_ : DpIn w m
  deps : DepsOk m.deps
  few : m.dl ≤ 1048576
theorem MgN.below {w w' : World} {m : Mg} (h : MgN w m) (hb : Below w.heap.size w w') : MgN w' m := ⟨h.f0, h.f1, h.q0, h.q1, Lst.below h.at_ hb, h.deps, h.few⟩
/-- A scope whose run comes back to one label: what goes on from the label is shown once, and serves the first pass, too. -/
theorem wp_scope_back {P : Program} {a : Act} {w : World} {Q : Exit → Act → World → Prop} {c rest : Code} (l : Nat) (J : Act → World → Prop) (μ : Act → World → Nat) (hf : findLabel c l = some (.seq .skip rest))
    (pass : ∀ a w, J a w → rest.wp P (Exit.jump l (fun a' w' => J a' w' ∧ μ a' w' < μ a w) Q) a w)
    (first : (∀ a w, J a w → rest.wp P (Exit.jump l J Q) a w) → c.wp P (Exit.jump l J Q) a w) : (Code.scope c).wp P Q a w :=
  wp_scope_jumps l J μ hf (first fun a w hj => wp_mono (pass a w hj) fun e a' w' h => by
    cases e with
    | goto l' => exact ⟨h.1, h.2.1⟩
    | _ => exact h) fun a w hj => wp_seq (wp_skip (pass a w hj))
/-- An end as it stands in memory. -/
def readE (w : World) (b : Nat) (q : Nat) : Int := match w.cell? ⟨b, q, none⟩ with
  | some (.int _ v) => v
  | _ => 0
theorem readE_at {w : World} {b : Nat} {e : Nat → Int} (h : EnB w b e) (q : Nat) (hq : q < 64) : readE w b q = e q := by
  unfold readE; rw [h.at_ q hq]
theorem sumE_ext {e e' : Nat → Int} : ∀ k, (∀ q, q < k → e q = e' q) → sumE e k = sumE e' k
  | 0, _ => rfl
  | k + 1, h => by
    unfold sumE
    rw [sumE_ext k fun q hq => h q (by omega), h k (by omega)]
theorem sumE_read {w : World} {b : Nat} {e : Nat → Int} (h : EnB w b e) : sumE (readE w b) 64 = sumE e 64 := sumE_ext 64 fun q hq => readE_at h q hq
/-- Two ends held against each other. -/
def sameE (e e' : Nat → Int) : Bool := (List.range 64).all fun q => e q == e' q
theorem sameE_iff {e e' : Nat → Int} : sameE e e' = true ↔ ∀ q, q < 64 → e q = e' q := by
  unfold sameE; simp
theorem ends_under : Try.prog.underlying 65 = some (.array 64 26) := by kernel_rfl
theorem eq_ends (d : Nat) (e e' : Nat → Int) (w : World) : (Op.equalIn (d + 2) 65 (.agg (rowF vI64 e).toArray) (.agg (rowF vI64 e').toArray)).run Try.prog w = .ok (sameE e e') w := by
  have ht := ends_under
  have he : Try.prog.underlying 26 = some (.int .u64) := by kernel_rfl
  have hsz : (sizeOf 26).run Try.prog w = .ok 1 w := Try.sizeOf26 w
  unfold sameE
  rw [List.range_eq_range', Op.equalIn]
  simp only [Sem.run_bind, run_underlying ht, Result.andThen_ok, hsz, Std.Legacy.Range.forIn_eq_forIn_range', Std.Legacy.Range.size, Nat.sub_zero, Nat.add_sub_cancel, Nat.div_one]
  have hl : ∀ i ∈ List.range' 0 64 1, i < 64 := fun i hi => by simpa using (List.mem_range'_1.1 hi).2
  generalize List.range' 0 64 1 = l at hl ⊢
  induction l with
  | nil => simp
  | cons i l ih =>
    have hi : i < 64 := hl i (by simp)
    have px : (part 26 (rowF vI64 e).toArray (i * 1)).run Try.prog w = .ok (.int .u64 (e i)) w := by
      simp [part, isAgg, run_underlying he, rowF_at vI64 e i hi, vI64]
    have py : (part 26 (rowF vI64 e').toArray (i * 1)).run Try.prog w = .ok (.int .u64 (e' i)) w := by
      simp [part, isAgg, run_underlying he, rowF_at vI64 e' i hi, vI64]
    have pe : (Op.equalIn (d + 1) 26 (.int .u64 (e i)) (.int .u64 (e' i))).run Try.prog w = .ok (e i == e' i) w := run_equalIn_int w d _ .u64 .u64 _ _ he
    simp only [List.forIn_cons, Sem.run_bind, px, py, pe, Result.andThen_ok, List.all_cons]
    cases hb : (e i == e' i)
    · simp
    · simp only [Bool.not_true, Bool.false_eq_true, if_false, Sem.run_pure, Result.andThen_ok, Bool.true_and]
      exact ih fun j hj => hl j (by simp [hj])
theorem neq_ends (e e' : Nat → Int) (w : World) : (binOp .neq 65 (.agg (rowF vI64 e).toArray) (.agg (rowF vI64 e').toArray)).run Try.prog w = .ok (.bool (!sameE e e')) w := by
  rw [run_neq_struct, eq_ends 9998]; rfl
theorem load_mgm {ops : Array Oper} {rest : List Oper} {o : Oper} {A : Act} {w : World} {Q : Exit → Act → World → Prop} (hgd : o.guard = none) (x : Operand) (ho : o.op = .load 35 x)
    (b q : Nat) (m : Mg) (hx : A.eval x = .pointer (some ⟨b, q, none⟩)) (hc : w.rangeAt b q (encG m))
    (h : wpList Try.prog ops Q rest (A.put o.dst (.agg #[.int .i64 m.f, .int .u32 m.q, .int .u64 m.s, .int .i64 m.v, .slice m.a m.dl m.dc, .string m.text])) w) : wpList Try.prog ops Q (o :: rest) A w :=
  wpList_load_mid hgd 35 x ho b q hx (encG m) _ hc Try.underlying35 rfl msg_size h
/-- Amid a pass. -/
structure EnL (w v : World) (f : Nat → Wh) (R : List Mg) (wb k : Nat) (e e' : Nat → Int) : Prop where
  ce : EnB v (w.heap.size + 1) e'
  cr : EnB v w.heap.size (fun _ => 0)
  cw : EnB v wb e
  ok : EndOk f R e'
  bel : Below w.heap.size w v
  ne : w.heap.size + 1 < wb
  go : (e' = e ∧ ∀ (j : Nat) (m : Mg), j < k → R[j]? = some m → aheadE e m = true → leantB e m.deps = false) ∨ sumE e' 64 < sumE e 64
section
variable {w v v' : World} {f : Nat → Wh} {R : List Mg} {wb k : Nat} {e e' : Nat → Int}
theorem EnL.later (h : EnL w v f R wb k e e') (hb : Below v.heap.size v v') : EnL w v' f R wb k e e' :=
  ⟨h.ce.below hb, h.cr.below hb, h.cw.below hb, h.ok, h.bel.trans (hb.mono h.bel.size), h.ne, h.go⟩
theorem EnL.stay (h : EnL w v f R wb k e e') (x : Mg) (hx : R[k]? = some x) (hn : aheadE e' x = true → leantB e' x.deps = false) : EnL w v f R wb (k + 1) e e' := by
  refine ⟨h.ce, h.cr, h.cw, h.ok, h.bel, h.ne, ?_⟩
  rcases h.go with ⟨rfl, hg⟩ | hg
  · refine .inl ⟨rfl, fun j m hj hm ha => ?_⟩
    by_cases hjk : j = k
    · subst hjk; rw [hx] at hm; cases hm; exact hn ha
    · exact hg j m (by omega) hm ha
  · exact .inr hg
theorem EnL.turn (h : EnL w v f R wb k e e') (x : Mg) (hx : R[k]? = some x) (ha : aheadE e' x = true) (hl : leantB e' x.deps = true) :
    EnL w (v.setCell ⟨w.heap.size + 1, x.f.toNat, none⟩ (.int .u64 x.q)) f R wb (k + 1) e (updE e' x.f.toNat x.q) := by
  obtain ⟨h1, h2, h3, h4, _⟩ := h.ok.turn (List.mem_of_getElem? hx) ha (leant_iff.1 hl)
  have hn := h.ne
  have hs := sumE_upd e' x.f.toNat x.q (by have := (ahead_in h.ok ha).1; have := this.2.2.1; omega) h2 64 (by omega)
  refine ⟨h.ce.set _ (by omega) _, h.cr.kept (heap_setCell_other v _ _ _ (by show w.heap.size ≠ w.heap.size + 1; omega)), h.cw.kept (heap_setCell_other v _ _ _ (by show wb ≠ w.heap.size + 1; omega)), h1, ?_, h.ne, ?_⟩
  · exact h.bel.setCell (by show w.heap.size ≤ w.heap.size + 1; omega) _
  · rcases h.go with ⟨rfl, _⟩ | hg
    · exact .inr hs
    · exact .inr (Nat.lt_trans hs hg)
end
/-- What stands at the label. -/
structure EnJ (w wr : World) (f : Nat → Wh) (R : List Mg) (e : Nat → Int) : Prop where
  ce : EnB wr (w.heap.size + 1) e
  cr : EnB wr w.heap.size (fun _ => 0)
  ok : EndOk f R e
  bel : Below w.heap.size w wr
/-- .. with the frame. -/
def EnAt (g : Nat) (ao : Option Addr) (n c : Nat) (w : World) (f : Nat → Wh) (R : List Mg) (a' : Act) (wr : World) : Prop :=
  ∃ (e : Nat → Int) (u2 u3 u6 u7 u8 u9 u10 u11 u12 u13 u14 u15 u16 u17 u18 u19 u20 u21 u22 u23 u24 u25 u26 u27 u28 u29 u30 u31 u32 u33 u34 u35 u36 u37 u38 u39 u40 u41 u42 u43 u44 u45 u46 u47 u48 u49 u50 : Value), a' = { tmps := #[.pointer (some ⟨g, 0, none⟩), .slice ao n c, u2, u3, .pointer (some ⟨w.heap.size, 0, none⟩), .pointer (some ⟨w.heap.size + 1, 0, none⟩), u6, u7, u8, u9, u10, u11, u12, u13, u14, u15, u16, u17, u18, u19, u20, u21, u22, u23, u24, u25, u26, u27, u28, u29, u30, u31, u32, u33, u34, u35, u36, u37, u38, u39, u40, u41, u42, u43, u44, u45, u46, u47, u48, u49, u50], defers := [] } ∧ EnJ w wr f R e
/-- While the ends are laid. -/
structure En1 (w v : World) (f : Nat → Wh) (k : Nat) : Prop where
  ce : EnB v (w.heap.size + 1) (endUp f k)
  cr : EnB v w.heap.size (fun _ => 0)
  bel : Below w.heap.size w v
theorem En1.later {w v v' : World} {f : Nat → Wh} {k : Nat} (h : En1 w v f k) (hb : Below v.heap.size v v') : En1 w v' f k :=
  ⟨h.ce.below hb, h.cr.below hb, h.bel.trans (hb.mono h.bel.size)⟩
theorem En1.next {w v : World} {f : Nat → Wh} {k : Nat} (h : En1 w v f k) (hk : k < 64) : En1 w (v.setCell ⟨w.heap.size + 1, k, none⟩ (.int .u64 ((f k).n + 1))) f (k + 1) := by
  refine ⟨?_, h.cr.kept (heap_setCell_other v _ _ _ (by show w.heap.size ≠ w.heap.size + 1; omega)), h.bel.setCell (by show w.heap.size ≤ w.heap.size + 1; omega) _⟩
  rw [← endUp_next]
  exact h.ce.set k hk _
theorem En1.start (w : World) (f : Nat → Wh) : En1 w ((w.alloc (.cells (rowF vI64 fun _ => 0).toArray 65)).alloc (.cells (rowF vI64 fun _ => 0).toArray 65)) f 0 := by
  have b1 := ((Grw.refl (w.alloc (.cells (rowF vI64 fun _ => 0).toArray 65))).alloc (.cells (rowF vI64 fun _ => 0).toArray 65)).below
  refine ⟨?_, (EnB.new w _).below b1, (((Grw.refl w).alloc _).alloc _).below⟩
  have := EnB.new (w.alloc (.cells (rowF vI64 fun _ => 0).toArray 65)) (fun _ => 0)
  rw [show (w.alloc (.cells (rowF vI64 fun _ => 0).toArray 65)).heap.size = w.heap.size + 1 by simp] at this
  rw [endUp_zero]
  exact this
theorem En1.done {w v : World} {f : Nat → Wh} {R : List Mg} (h : En1 w v f 64) (hf : WhOk f) : EnJ w v f R (endUp f 64) := by
  refine ⟨h.ce, h.cr, ?_, h.bel⟩
  have key : ∀ q, q < 64 → endUp f 64 q = end0 f q := fun q hq => by unfold endUp end0; rw [if_pos hq]
  have h0 := EndOk.start hf R
  exact ⟨fun q hq => by rw [key q hq]; exact h0.is q hq, fun q hq => by rw [key q hq]; exact h0.le q hq, fun q hq => by rw [key q hq]; exact h0.lo q hq⟩
section
variable {w : World} {g : Nat} {P : Pn}
set_option maxHeartbeats 4000000 in
theorem pends (h : PlB w g P) (hf : WhOk P.f) (ao : Option Addr) (n c : Nat) (R : List Mg) (hR : Lst encG 6 w ao n R) (hd : ∀ m ∈ R, MgN w m) (hn : n ≤ 1048576) :
    Calls Try.prog 20 #[.pointer (some ⟨g, 0, none⟩), .slice ao n c] w fun ee w' => ∃ e, ee = .returned (.agg (rowF vI64 e).toArray) ∧ EndOk P.f R e ∧ EndFix R e ∧ Below w.heap.size w w' := by
  have H0 := Lib.hid h
  have HF := Lib.hid hf
  have HRR := Lib.hid hR
  have HLEN := Lib.hid hR.size
  have HD := Lib.hid hd
  clear h hf hR hd
  go_enter Try.func20, Try.ntmps20
  go_upto_region 1 with fail
  refine wp_scope_back 0 (EnAt g ao n c w P.f R) (fun _ wr => sumE (readE wr (w.heap.size + 1)) 64) rfl ?_ ?_
  · rintro a' wa ⟨e, u2, u3, u6, u7, u8, u9, u10, u11, u12, u13, u14, u15, u16, u17, u18, u19, u20, u21, u22, u23, u24, u25, u26, u27, u28, u29, u30, u31, u32, u33, u34, u35, u36, u37, u38, u39, u40, u41, u42, u43, u44, u45, u46, u47, u48, u49, u50, rfl, HJ⟩
    have Z := EnB.new wa (fun _ => 0)
    have HZ := Lib.hid HJ
    have B7 : Below wa.heap.size wa ((wa.alloc (.cells (rowF vI64 fun _ => 0).toArray 65)).setRow wa.heap.size (rowF vI64 e).toArray) := belowRow10 ((Grw.refl wa).alloc _).below _ (Nat.le_refl _) _
    have hlt := HJ.ce.lt
    have L7 := Lib.hid (show EnL w ((wa.alloc (.cells (rowF vI64 fun _ => 0).toArray 65)).setRow wa.heap.size (rowF vI64 e).toArray) P.f R wa.heap.size 0 e e from
      ⟨HJ.ce.below B7, HJ.cr.below B7, Z.row e, HJ.ok, HJ.bel.trans (B7.mono HJ.bel.size), hlt, .inl ⟨rfl, fun j m hj => absurd hj (Nat.not_lt_zero _)⟩⟩)
    clear B7
    go_upto_region 8 with (first | (refine load_en rfl (.tmp 5) rfl (w.heap.size + 1) e rfl HZ.out.ce ?_) | (refine store_en rfl (.tmp 8) (.tmp 26) rfl wa.heap.size e rfl rfl Z ?_) | fail)
    change Hid (EnL w ((wa.alloc (.cells #[.int .u64 0, .int .u64 0, .int .u64 0, .int .u64 0, .int .u64 0, .int .u64 0, .int .u64 0, .int .u64 0, .int .u64 0, .int .u64 0, .int .u64 0, .int .u64 0, .int .u64 0, .int .u64 0, .int .u64 0, .int .u64 0, .int .u64 0, .int .u64 0, .int .u64 0, .int .u64 0, .int .u64 0, .int .u64 0, .int .u64 0, .int .u64 0, .int .u64 0, .int .u64 0, .int .u64 0, .int .u64 0, .int .u64 0, .int .u64 0, .int .u64 0, .int .u64 0, .int .u64 0, .int .u64 0, .int .u64 0, .int .u64 0, .int .u64 0, .int .u64 0, .int .u64 0, .int .u64 0, .int .u64 0, .int .u64 0, .int .u64 0, .int .u64 0, .int .u64 0, .int .u64 0, .int .u64 0, .int .u64 0, .int .u64 0, .int .u64 0, .int .u64 0, .int .u64 0, .int .u64 0, .int .u64 0, .int .u64 0, .int .u64 0, .int .u64 0, .int .u64 0, .int .u64 0, .int .u64 0, .int .u64 0, .int .u64 0, .int .u64 0, .int .u64 0] 65)).setRow wa.heap.size (rowF vI64 e).toArray) _ _ _ _ _ _) at L7
    generalize (wa.alloc (.cells #[.int .u64 0, .int .u64 0, .int .u64 0, .int .u64 0, .int .u64 0, .int .u64 0, .int .u64 0, .int .u64 0, .int .u64 0, .int .u64 0, .int .u64 0, .int .u64 0, .int .u64 0, .int .u64 0, .int .u64 0, .int .u64 0, .int .u64 0, .int .u64 0, .int .u64 0, .int .u64 0, .int .u64 0, .int .u64 0, .int .u64 0, .int .u64 0, .int .u64 0, .int .u64 0, .int .u64 0, .int .u64 0, .int .u64 0, .int .u64 0, .int .u64 0, .int .u64 0, .int .u64 0, .int .u64 0, .int .u64 0, .int .u64 0, .int .u64 0, .int .u64 0, .int .u64 0, .int .u64 0, .int .u64 0, .int .u64 0, .int .u64 0, .int .u64 0, .int .u64 0, .int .u64 0, .int .u64 0, .int .u64 0, .int .u64 0, .int .u64 0, .int .u64 0, .int .u64 0, .int .u64 0, .int .u64 0, .int .u64 0, .int .u64 0, .int .u64 0, .int .u64 0, .int .u64 0, .int .u64 0, .int .u64 0, .int .u64 0, .int .u64 0, .int .u64 0] 65)).setRow wa.heap.size (rowF vI64 e).toArray = V at *
    generalize wa.heap.size = wb at *
    clear Z HJ hlt
    have HMU := Lib.hid (sumE_read HZ.out.ce)
    clear HZ
    go_wp2
    go_loopw [29] (fun si wr => ∃ (k : Nat) (e' : Nat → Int), k ≤ n ∧ si = .int .i64 k ∧ Aside (EnL w wr P.f R wb k e e')) (fun si _ => n - (intOf si).toNat)
    case atStart => exact ⟨0, e, Nat.zero_le _, rfl, L7.out⟩
    case round =>
      obtain ⟨k, e', hk, rfl, HL⟩ := hrel
      clear L7
      by_cases hlt : k < n
      · obtain ⟨b, o, rfl, hr⟩ := HRR.out.src (by omega)
        have hlt' : k < R.length := by rw [HLEN.out]; exact hlt
        obtain ⟨x, hx⟩ : ∃ x, R[k]? = some x := ⟨_, List.getElem?_eq_getElem hlt'⟩
        have HM := Lib.hid ((HD.out x (List.mem_of_getElem? hx)).below HL.out.bel)
        have HR := Lib.hid (show wr.rangeAt b (o + k * 6) (encG x) from fun j u hj => cell_later HL.out.bel (hr k x hx j u hj))
        have HX := Lib.hid hx
        clear hr hx hlt'
        have B4 := ((Grw.refl wr).alloc (.cells (encG x).toArray 35)).below
        have HM4 := Lib.hid (HM.out.below B4)
        have HL4 := Lib.hid (HL.out.later B4)
        have M4 := Lib.hid (MgB.new wr x)
        have PA := fun (W : World) (hb : Below (wr.alloc (.cells (encG x).toArray 35)).heap.size (wr.alloc (.cells (encG x).toArray 35)) W) => pahead (HL4.out.ce.below hb) x HM.out.f0 HM.out.f1 HM.out.q0 HM.out.q1
        obtain ⟨f, q, s, vv, a, dl, dc, deps, text⟩ := x
        unfold encG at *
        clear B4 HL HM
        go_upto_region 11 with (first | (refine load_mgm rfl (.tmp 31) rfl b (o + k * 6) ⟨f, q, s, vv, a, dl, dc, deps, text⟩ rfl HR.out ?_) | fail)
        generalize wr.alloc (.cells #[.int .i64 f, .int .u32 q, .int .u64 s, .int .i64 vv, .slice a dl dc, .string text] 35) = w4 at *
        generalize wr.heap.size = mb at *
        clear HR
        have hf0 := (HD.out _ (List.mem_of_getElem? HX.out)).f0
        have hq0 := (HD.out _ (List.mem_of_getElem? HX.out)).q0
        have hq1 := (HD.out _ (List.mem_of_getElem? HX.out)).q1
        simp only at hf0 hq0 hq1
        have c0 : w4.cell? ⟨mb, 0, none⟩ = some (.int .i64 f) := M4.out.own.at_ 0 _ rfl
        have c1 : w4.cell? ⟨mb, 1, none⟩ = some (.int .u32 q) := M4.out.own.at_ 1 _ rfl
        have c2 : w4.cell? ⟨mb, 2, none⟩ = some (.int .u64 s) := M4.out.own.at_ 2 _ rfl
        have c3 : w4.cell? ⟨mb, 3, none⟩ = some (.int .i64 vv) := M4.out.own.at_ 3 _ rfl
        have c4 : w4.cell? ⟨mb, 4, none⟩ = some (.slice a dl dc) := M4.out.own.at_ 4 _ rfl
        have c5 : w4.cell? ⟨mb, 5, none⟩ = some (.string text) := M4.out.own.at_ 5 _ rfl
        have P4 := PA w4 (Below.refl _ _)
        obtain ⟨ba, hba⟩ : ∃ ba, ba = aheadE e' ⟨f, q, s, vv, a, dl, dc, deps, text⟩ := ⟨_, rfl⟩
        rw [← hba] at P4
        have HBA := Lib.hid hba
        clear hba PA
        go_wp2_with fail
        with_reducible refine P4.mono ?_
        rintro e5 w5 ⟨rfl, hG⟩
        have HL5 := Lib.hid (HL4.out.later hG.below)
        have M5 := Lib.hid (M4.out.later hG.below)
        have HM5 := Lib.hid (HM4.out.below hG.below)
        clear P4 hG c0 c1 c2 c3 c4 c5 HL4 M4 HM4
        cases ba with
        | false =>
          have HN := Lib.hid (HL5.out.stay _ HX.out fun ha => by rw [← HBA.out] at ha; cases ha)
          go_wp2
          go_roundw
          case rel => exact ⟨k + 1, e', by omega, by go_num, HN.out⟩
          case measure => simp [intOf]; omega
        | true =>
          have c4 : w5.cell? ⟨mb, 4, none⟩ = some (.slice a dl dc) := M5.out.own.at_ 4 _ rfl
          have PL := pleant HL5.out.ce a dl dc deps HM5.out.at_ HM5.out.deps HM5.out.few
          obtain ⟨bl, hbl⟩ : ∃ bl, bl = leantB e' deps := ⟨_, rfl⟩
          rw [← hbl] at PL
          have HBL := Lib.hid hbl
          clear hbl
          go_wp2_with fail
          with_reducible refine PL.mono ?_
          rintro e6 w6 ⟨rfl, rfl⟩
          clear PL c4
          cases bl with
          | false =>
            have HN := Lib.hid (HL5.out.stay _ HX.out fun ha => HBL.out.symm)
            go_wp2
            go_roundw
            case rel => exact ⟨k + 1, e', by omega, by go_num, HN.out⟩
            case measure => simp [intOf]; omega
          | true =>
            have HN := Lib.hid (HL5.out.turn _ HX.out HBA.out.symm HBL.out.symm)
            have hin := (HL5.out.ok.turn (List.mem_of_getElem? HX.out) HBA.out.symm (leant_iff.1 HBL.out.symm)).2.2
            have hf1 := hin.1
            have hf2 := hin.2.1
            simp only at hf1 hf2
            obtain ⟨p, rfl⟩ := Int.eq_ofNat_of_zero_le hf1
            have hp : p < 64 := by omega
            have hwr : IntKind.u64.wrap q = q := by obtain ⟨z, rfl⟩ := Int.eq_ofNat_of_zero_le hq0; exact wrap_nat z (by omega)
            have c0 : w5.cell? ⟨mb, 0, none⟩ = some (.int .i64 (p : Int)) := M5.out.own.at_ 0 _ rfl
            have c1 : w5.cell? ⟨mb, 1, none⟩ = some (.int .u32 q) := M5.out.own.at_ 1 _ rfl
            have d0 := HL5.out.ce.at_ p hp
            have g0 := HL5.out.ce.free p
            clear hin hf1 hf2
            go_wp2
            go_roundw
            case rel => exact ⟨k + 1, _, by omega, by go_num, HN.out⟩
            case measure => simp [intOf]; omega
      · obtain rfl : k = n := by omega
        have hq : ∀ W, (Op.equalIn 10000 65 (.agg (rowF vI64 e').toArray) (.agg (rowF vI64 e).toArray)).run Try.prog W = .ok (sameE e' e) W := fun W => eq_ends 9998 e' e W
        have HL' := Lib.hid HL.out
        clear HL
        cases hs : sameE e' e with
        | false =>
          have HJ2 := Lib.hid (show EnJ w wr P.f R e' from ⟨HL'.out.ce, HL'.out.cr, HL'.out.ok, HL'.out.bel⟩)
          have HM2 := Lib.hid (show sumE (readE wr (w.heap.size + 1)) 64 < sumE (readE wa (w.heap.size + 1)) 64 by
            rw [sumE_read HL'.out.ce, HMU.out]
            rcases HL'.out.go with ⟨rfl, _⟩ | h
            · have := sameE_iff.2 (fun q _ => rfl : ∀ q, q < 64 → e' q = e' q)
              rw [hs] at this; cases this
            · exact h)
          rw [hs] at hq
          clear hs
          go_wp2_with (first | (refine load_en rfl (.tmp 5) rfl (w.heap.size + 1) e' rfl HL'.out.ce ?_) | (refine load_en rfl (.tmp 8) rfl wb e rfl HL'.out.cw ?_) | fail)
          go_step3
          exact ⟨rfl, ⟨e', _, _, _, _, _, _, _, _, _, _, _, _, _, _, _, _, _, _, _, _, _, _, _, _, _, _, _, _, _, _, _, _, _, _, _, _, _, _, _, _, _, _, _, _, _, _, _, rfl, HJ2.out⟩, HM2.out⟩
        | true =>
          have hee := sameE_iff.1 hs
          have HFX := Lib.hid (show EndFix R e' from fun m hm ha => by
            rcases HL'.out.go with ⟨rfl, h⟩ | h
            · obtain ⟨j, hj⟩ := List.getElem?_of_mem hm
              have := h j m (by have := (List.getElem?_eq_some_iff.1 hj).1; rw [HLEN.out] at this; exact this) hj ha
              intro hl
              rw [leant_iff.2 hl] at this; cases this
            · exact absurd h (by rw [sumE_ext 64 hee]; omega))
          rw [hs] at hq
          clear hs hee
          go_wp2_with (first | (refine load_en rfl (.tmp 5) rfl (w.heap.size + 1) e' rfl HL'.out.ce ?_) | (refine load_en rfl (.tmp 8) rfl wb e rfl HL'.out.cw ?_) | (refine store_en rfl (.tmp 4) (.tmp 50) rfl w.heap.size e' rfl rfl HL'.out.cr ?_) | fail)
          simp only [Exit.jump]
          exact bodyPost_ret (v := .agg (rowF vI64 e').toArray) (results_en (p := 4) rfl _ _ w.heap.size rfl (HL'.out.cr.row e')) rfl ⟨e', rfl, HL'.out.ok, HFX.out, belowRow10 HL'.out.bel _ (Nat.le_refl _) _⟩
  · intro hr
    have HRL := Lib.hid hr
    clear hr
    have E1 := Lib.hid (En1.start w P.f)
    change Hid (En1 w ((w.alloc (.cells #[.int .u64 0, .int .u64 0, .int .u64 0, .int .u64 0, .int .u64 0, .int .u64 0, .int .u64 0, .int .u64 0, .int .u64 0, .int .u64 0, .int .u64 0, .int .u64 0, .int .u64 0, .int .u64 0, .int .u64 0, .int .u64 0, .int .u64 0, .int .u64 0, .int .u64 0, .int .u64 0, .int .u64 0, .int .u64 0, .int .u64 0, .int .u64 0, .int .u64 0, .int .u64 0, .int .u64 0, .int .u64 0, .int .u64 0, .int .u64 0, .int .u64 0, .int .u64 0, .int .u64 0, .int .u64 0, .int .u64 0, .int .u64 0, .int .u64 0, .int .u64 0, .int .u64 0, .int .u64 0, .int .u64 0, .int .u64 0, .int .u64 0, .int .u64 0, .int .u64 0, .int .u64 0, .int .u64 0, .int .u64 0, .int .u64 0, .int .u64 0, .int .u64 0, .int .u64 0, .int .u64 0, .int .u64 0, .int .u64 0, .int .u64 0, .int .u64 0, .int .u64 0, .int .u64 0, .int .u64 0, .int .u64 0, .int .u64 0, .int .u64 0, .int .u64 0] 65)).alloc (.cells #[.int .u64 0, .int .u64 0, .int .u64 0, .int .u64 0, .int .u64 0, .int .u64 0, .int .u64 0, .int .u64 0, .int .u64 0, .int .u64 0, .int .u64 0, .int .u64 0, .int .u64 0, .int .u64 0, .int .u64 0, .int .u64 0, .int .u64 0, .int .u64 0, .int .u64 0, .int .u64 0, .int .u64 0, .int .u64 0, .int .u64 0, .int .u64 0, .int .u64 0, .int .u64 0, .int .u64 0, .int .u64 0, .int .u64 0, .int .u64 0, .int .u64 0, .int .u64 0, .int .u64 0, .int .u64 0, .int .u64 0, .int .u64 0, .int .u64 0, .int .u64 0, .int .u64 0, .int .u64 0, .int .u64 0, .int .u64 0, .int .u64 0, .int .u64 0, .int .u64 0, .int .u64 0, .int .u64 0, .int .u64 0, .int .u64 0, .int .u64 0, .int .u64 0, .int .u64 0, .int .u64 0, .int .u64 0, .int .u64 0, .int .u64 0, .int .u64 0, .int .u64 0, .int .u64 0, .int .u64 0, .int .u64 0, .int .u64 0, .int .u64 0, .int .u64 0] 65)) P.f 0) at E1
    have HP := Lib.hid (H0.out.below E1.out.bel)
    go_upto_region 2 with fail
    generalize (w.alloc (.cells #[.int .u64 0, .int .u64 0, .int .u64 0, .int .u64 0, .int .u64 0, .int .u64 0, .int .u64 0, .int .u64 0, .int .u64 0, .int .u64 0, .int .u64 0, .int .u64 0, .int .u64 0, .int .u64 0, .int .u64 0, .int .u64 0, .int .u64 0, .int .u64 0, .int .u64 0, .int .u64 0, .int .u64 0, .int .u64 0, .int .u64 0, .int .u64 0, .int .u64 0, .int .u64 0, .int .u64 0, .int .u64 0, .int .u64 0, .int .u64 0, .int .u64 0, .int .u64 0, .int .u64 0, .int .u64 0, .int .u64 0, .int .u64 0, .int .u64 0, .int .u64 0, .int .u64 0, .int .u64 0, .int .u64 0, .int .u64 0, .int .u64 0, .int .u64 0, .int .u64 0, .int .u64 0, .int .u64 0, .int .u64 0, .int .u64 0, .int .u64 0, .int .u64 0, .int .u64 0, .int .u64 0, .int .u64 0, .int .u64 0, .int .u64 0, .int .u64 0, .int .u64 0, .int .u64 0, .int .u64 0, .int .u64 0, .int .u64 0, .int .u64 0, .int .u64 0] 65)).alloc (.cells #[.int .u64 0, .int .u64 0, .int .u64 0, .int .u64 0, .int .u64 0, .int .u64 0, .int .u64 0, .int .u64 0, .int .u64 0, .int .u64 0, .int .u64 0, .int .u64 0, .int .u64 0, .int .u64 0, .int .u64 0, .int .u64 0, .int .u64 0, .int .u64 0, .int .u64 0, .int .u64 0, .int .u64 0, .int .u64 0, .int .u64 0, .int .u64 0, .int .u64 0, .int .u64 0, .int .u64 0, .int .u64 0, .int .u64 0, .int .u64 0, .int .u64 0, .int .u64 0, .int .u64 0, .int .u64 0, .int .u64 0, .int .u64 0, .int .u64 0, .int .u64 0, .int .u64 0, .int .u64 0, .int .u64 0, .int .u64 0, .int .u64 0, .int .u64 0, .int .u64 0, .int .u64 0, .int .u64 0, .int .u64 0, .int .u64 0, .int .u64 0, .int .u64 0, .int .u64 0, .int .u64 0, .int .u64 0, .int .u64 0, .int .u64 0, .int .u64 0, .int .u64 0, .int .u64 0, .int .u64 0, .int .u64 0, .int .u64 0, .int .u64 0, .int .u64 0] 65) = w2 at *
    go_wp2_with (first | (refine load_whs rfl (.tmp 13) rfl g P rfl HP.out ?_) | fail)
    go_loopw [15] (fun si wr => ∃ k : Nat, k ≤ 64 ∧ si = .int .i64 k ∧ Aside (En1 w wr P.f k)) (fun si _ => 64 - (intOf si).toNat)
    case atStart => exact ⟨0, Nat.zero_le _, rfl, E1.out⟩
    case round =>
      obtain ⟨k, hk, rfl, HL⟩ := hrel
      clear E1
      by_cases hlt : k < 64
      · have B4 := ((Grw.refl wr).alloc (.cells #[.int .u32 (P.f k).n, .int .i64 (P.f k).h] 57)).below
        have hb := HF.out.lo k
        obtain ⟨b0, b1⟩ := hb
        have HL4 := Lib.hid (HL.out.later B4)
        have HIX := Lib.hid (fun W => index_whs P.f k hlt W)
        have HNX := Lib.hid (HL4.out.next hlt)
        have d0 := HL4.out.ce.at_ k hlt
        have g0 := HL4.out.ce.free k
        obtain ⟨z, hz⟩ := Int.eq_ofNat_of_zero_le b0
        have hw1 : IntKind.u64.wrap (P.f k).n = (P.f k).n := by rw [hz]; exact wrap_nat z (by omega)
        have hw2 : IntKind.u64.wrap ((P.f k).n + 1) = (P.f k).n + 1 := by rw [hz, show ((z : Int) + 1) = ((z + 1 : Nat) : Int) by omega]; exact wrap_nat (z + 1) (by omega)
        clear hz B4 HL
        generalize (P.f k).n = u at *
        generalize (P.f k).h = y at *
        go_wp2_with (with_reducible refine step_index15 rfl 58 (.tmp 14) (.tmp 15) rfl (.agg (rowW P.f).toArray) (.int .i64 (k : Int)) (.agg #[.int .u32 u, .int .i64 y]) rfl rfl (HIX.out _) ?_)
        go_roundw
        case rel => exact ⟨k + 1, by omega, by go_num, HNX.out⟩
        case measure => simp [intOf]; omega
      · obtain rfl : k = 64 := by omega
        have HJ := Lib.hid (HL.out.done (R := R) HF.out)
        go_wp2
        go_step3
        rename_i hK
        exact hK _ _ (HRL.out _ _ ⟨endUp P.f 64, _, _, _, _, _, _, _, _, _, _, _, _, _, _, _, _, _, _, _, _, _, _, _, _, _, _, _, _, _, _, _, _, _, _, _, _, _, _, _, _, _, _, _, _, _, _, _, rfl, HJ.out⟩)
end
end Go.Proofs.Ythgdiihibjnhoaa
