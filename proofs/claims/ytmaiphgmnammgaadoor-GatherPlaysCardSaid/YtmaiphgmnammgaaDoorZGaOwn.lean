/- Attempts: New; an exchange in memory of its own; is one there? -/
import Derived.Test.YtmaiphgmnammgaaDoorZGaAt
set_option linter.unusedVariables false
set_option maxRecDepth 100000
set_option linter.unusedSimpArgs false
namespace Go.Proofs.YtmaiphgmnammgaaDoor
open Go.RowKit Go.Sort Go.Maps

set_option maxHeartbeats 2000000 in
theorem clone16_some (ad : Addr) (n c : Nat) (l : List Int) (w : World) (hn : n ≤ 35184372087808) (hc : Lst (fun n : Int => [.int .u32 n]) 1 w (some ad) n l) :
    Calls Tryd.prog 54 #[.slice (some ad) n c] w fun e w' => ∃ a' dc', e = .returned (.slice a' n dc') ∧ Lst (fun n : Int => [.int .u32 n]) 1 w' a' n l ∧ (∀ x, a' = some x → w.heap.size ≤ x.block ∧ ∃ cur, w'.heap[x.block]? = some (.cells cur 52 (0, 0))) ∧ Below w.heap.size w w' := by
  obtain ⟨i0, hi, hz0, hz1, hz2⟩ := info_parts infoU
  have q : ∀ (w : World) (a : Option Addr) (n c n' c' : Nat), (binOp .eql 34 (.slice a n c) (.slice none n' c')).run Tryd.prog w = .ok (.bool a.isNone) w := fun w a n c n' c' => Lib.run_eql_slice_nil w _ _ a n c n' c' Tryd.underlying34
  have HC := Lib.hid hc
  clear hc
  go_enter Tryd.func54, Tryd.ntmps54
  go_wp2_with (at_builtin; refine wpList_append_own _ rfl _ _ 34 rfl w.heap.size 52 i0 (.int .u32 0) 1 4 Tryd.underlying34 hi hz0 hz1 hz2 rfl (by decide) _ _ _ rfl (World.ownsRow_made w #[] 0 (Nat.le_refl _) (Nat.zero_le _) (by simp)) ad n c (flat encU l) rfl ?qc1 ?qc2 ?qc3 ?qc4 ?qc5 ?qc6 ?_)
  case qc1 => rw [flat_length encU 1 encU_length, HC.out.size]
  case qc2 =>
    intro j u hj
    have hj' : j < l.length * 1 := by have := (List.getElem?_eq_some_iff.1 hj).1; rwa [flat_length encU 1 encU_length] at this
    obtain ⟨b, o, e, R⟩ := HC.out.src (by rw [← HC.out.size]; omega)
    injection e with e
    subst e
    rw [add_lit10]
    exact cell_later ((Grw.refl w).alloc _).below (RowAt.flat (enc := encU) encU_length R j u hj)
  case qc3 => exact flatU_one
  case qc4 => rw [Nat.zero_add]; unfold maxLen; omega
  case qc5 => rw [Nat.zero_add]; omega
  case qc6 => simp
  intro v' w1 hown hgrow hnil
  have hown2 := own_eq (n' := n) (xs' := flat encU l) hown (by first | rfl | omega) (by first | rfl | exact List.nil_append _)
  obtain ⟨a', dc', rfl⟩ := own_form' hown2
  have HL := Lib.hid (own_lst' (enc := encU) encU_length HC.out.size hown2)
  have HN : Hid (∀ x, a' = some x → w.heap.size ≤ x.block ∧ ∃ cur, w1.heap[x.block]? = some (.cells cur 52 (0, 0))) := Lib.hid fun x hx => by
    subst hx
    exact own_typ15 hown2 x.block rfl
  have HB := Lib.hid (((Below.refl _ w).alloc (Nat.le_refl _) (.cells #[] 52)).grown hgrow (by simp) (by intro k hk; simp [Value.ownBlock] at hk; omega))
  clear hown hown2 hgrow hnil
  go_wp2
  go_ret
  first
    | exact ⟨a', dc', rfl, HL.out, HN.out, HB.out⟩
    | exact ⟨a', ⟨dc', rfl⟩, HL.out, HN.out, HB.out⟩
theorem clone16 (a : Option Addr) (n c : Nat) (l : List Int) (w : World) (hn : n ≤ 35184372087808) (hc : Lst (fun n : Int => [.int .u32 n]) 1 w a n l) :
    Calls Tryd.prog 54 #[.slice a n c] w fun e w' => ∃ a' dc', e = .returned (.slice a' n dc') ∧ Lst (fun n : Int => [.int .u32 n]) 1 w' a' n l ∧ (∀ x, a' = some x → w.heap.size ≤ x.block ∧ ∃ cur, w'.heap[x.block]? = some (.cells cur 52 (0, 0))) ∧ Below w.heap.size w w' := by
  cases a with
  | some ad => exact clone16_some ad n c l w hn hc
  | none =>
    have h0 : n = 0 := by
      rcases Nat.eq_zero_or_pos n with e | e
      · exact e
      · obtain ⟨_, _, e', _⟩ := hc.src e; cases e'
    subst h0
    refine (cloneW_nil 0 c w).mono ?_
    rintro e w' ⟨rfl, rfl⟩
    exact ⟨none, 0, rfl, hc, (fun x hx => by cases hx), Below.refl _ _⟩
/-- An exchange that came in. -/
structure XI (w : World) (x : Xg) : Prop where
  at_ : Lst (fun n : Int => [.int .u32 n]) 1 w x.a x.n x.cnt
  few : x.n ≤ 35184372087808
  u32 : ∀ v ∈ x.cnt, 0 ≤ v ∧ v < 4294967296
  ok : x.ok
theorem XI.below {w w' : World} {x : Xg} (h : XI w x) (hb : Below w.heap.size w w') : XI w' x := ⟨Lst.below h.at_ hb, h.few, h.u32, h.ok⟩
theorem XT.in_ {w : World} {x : Xg} (h : XT w x) (ok : x.ok) : XI w x := ⟨h.at_, h.few, h.u32, ok⟩
theorem xg_one1 (m : Xg) : (encXg m).toArray.all (·.oneCell') = true := by simp [encXg, Value.oneCell']
theorem store_xgb {ops : Array Oper} {rest : List Oper} {o : Oper} {A : Act} {w : World} {Q : Exit → Act → World → Prop} (hgd : o.guard = none) (x y : Operand) (ho : o.op = .store 38 x y)
    (g : Nat) (m : Xg) (hx : A.eval x = .pointer (some ⟨g, 0, none⟩)) (hy : A.eval y = encXv m) {m0 : Xg} (hg : XgB w g m0)
    (h : wpList Tryd.prog ops Q rest (A.put o.dst undef) (w.setRow g (encXg m).toArray)) : wpList Tryd.prog ops Q (o :: rest) A w :=
  wpList_store_row hgd 38 x y ho g _ hx hy 38 _ hg xg_size rfl (xg_one1 m) h
theorem load_xgb {ops : Array Oper} {rest : List Oper} {o : Oper} {A : Act} {w : World} {Q : Exit → Act → World → Prop} (hgd : o.guard = none) (x : Operand) (ho : o.op = .load 38 x)
    (g : Nat) (hx : A.eval x = .pointer (some ⟨g, 0, none⟩)) {m : Xg} (hg : XgB w g m)
    (h : wpList Tryd.prog ops Q rest (A.put o.dst (encXv m)) w) : wpList Tryd.prog ops Q (o :: rest) A w :=
  wpList_load_row hgd 38 x ho g hx 38 _ _ _ hg Tryd.underlying38 rfl xg_size h
theorem results_xgb {fn : Func} {p : Tmp} (h : fn.results = #[.cell p 38]) (tmps : Array Value) (w : World) (g : Nat) {m : Xg} (hp : tmps.getD p undef = .pointer (some ⟨g, 0, none⟩)) (hg : XgB w g m) :
    (results fn tmps).run Tryd.prog w = .ok (encXv m) w :=
  results_cell_row h tmps w g 38 _ (0, 0) _ hp hg Tryd.underlying38 rfl xg_size
theorem XgB.row {w : World} {g : Nat} {m : Xg} (h : XgB w g m) (x : Xg) : XgB (w.setRow g (encXg x).toArray) g x := setRow_heap _ _ _ _ _ _ h
/-- What own answers: the same exchange, its counts in new memory. -/
def OwnSaid (w : World) (x : Xg) (e : Ending) (w' : World) : Prop :=
  ∃ y, e = .returned (encXv y) ∧ stripX y = stripX x ∧ XT w' y ∧ (∀ ad, y.a = some ad → w.heap.size ≤ ad.block) ∧ Below w.heap.size w w'
set_option maxHeartbeats 2000000 in
theorem gown (x : Xg) (w : World) (h1 : Lst (fun n : Int => [.int .u32 n]) 1 w x.a x.n x.cnt) (h2 : x.n ≤ 35184372087808) (h3 : ∀ v ∈ x.cnt, 0 ≤ v ∧ v < 4294967296) :
    Calls Tryd.prog 40 #[encXv x] w (OwnSaid w x) := by
  obtain ⟨f, oe, op, a, n, c, cnt, kn, kp⟩ := x
  simp only at h1 h2 h3
  show Calls Tryd.prog 40 #[.agg #[.int .i64 f, .int .u64 oe, .int .i64 op, .slice a n c, .int .u64 kn, .int .i64 kp]] w _
  have L2 := (((Grw.refl w).alloc (.cells #[.int .i64 f, .int .u64 oe, .int .i64 op, .slice a n c, .int .u64 kn, .int .i64 kp] 38)).alloc (.cells #[.int .i64 0, .int .u64 0, .int .i64 0, .slice none 0 0, .int .u64 0, .int .i64 0] 38)).below
  have X1 := Own.new w 38 #[.int .i64 f, .int .u64 oe, .int .i64 op, .slice a n c, .int .u64 kn, .int .i64 kp]
  have X2 := Lib.hid (X1.below ((Grw.refl _).alloc (.cells #[.int .i64 0, .int .u64 0, .int .i64 0, .slice none 0 0, .int .u64 0, .int .i64 0] 38)).below X1.lt)
  have Z2 := Own.new (w.alloc (.cells #[.int .i64 f, .int .u64 oe, .int .i64 op, .slice a n c, .int .u64 kn, .int .i64 kp] 38)) 38 #[.int .i64 0, .int .u64 0, .int .i64 0, .slice none 0 0, .int .u64 0, .int .i64 0]
  rw [show (w.alloc (.cells #[.int .i64 f, .int .u64 oe, .int .i64 op, .slice a n c, .int .u64 kn, .int .i64 kp] 38)).heap.size = w.heap.size + 1 by simp] at Z2
  have HZ2 := Lib.hid Z2
  have HB2 := Lib.hid L2
  have PC := clone16 a n c cnt _ h2 (Lst.below h1 L2)
  have HU := Lib.hid h3
  have hn := h2
  clear h1 h2 h3 L2 X1 Z2
  go_enter Tryd.func40, Tryd.ntmps40
  go_upto_region 1 with fail
  generalize ((w.alloc (.cells #[.int .i64 f, .int .u64 oe, .int .i64 op, .slice a n c, .int .u64 kn, .int .i64 kp] 38)).alloc (.cells #[.int .i64 0, .int .u64 0, .int .i64 0, .slice none 0 0, .int .u64 0, .int .i64 0] 38)) = w2 at *
  obtain ⟨xb, hxb⟩ : ∃ xb, xb = w.heap.size := ⟨_, rfl⟩
  obtain ⟨rb, hrb⟩ : ∃ rb, rb = w.heap.size + 1 := ⟨_, rfl⟩
  rw [← hrb] at HZ2
  rw [← hxb] at X2
  try rw [← hrb]
  try rw [← hxb]
  have HN := Lib.hid (And.intro hxb hrb)
  clear hxb hrb
  have c3 := X2.out.at_ 3 _ rfl
  go_wp2_with fail
  refine PC.mono ?_
  rintro e w3 ⟨a', c', rfl, hl, hb, B3⟩
  have X3 := X2.out.below B3 X2.out.lt
  have Z3 := Lib.hid (HZ2.out.below B3 HZ2.out.lt)
  have HX4 := Lib.hid X3
  have f3 := X3.free 3
  have e3 := X3.at_ 3 _ rfl
  have X4 := Lib.hid (X3.set 3 (.slice a' n c'))
  have HB3 := Lib.hid (HB2.out.trans (B3.mono HB2.out.size))
  have HNE : Hid (xb ≠ rb) := Lib.hid (by have := HN.out; omega)
  have Z4 := Lib.hid (Z3.out.set_other xb 3 (.slice a' n c') HNE.out.symm)
  have T3 : Hid (XT w3 ⟨f, oe, op, a', n, c', cnt, ⟨kn, kp⟩⟩) := Lib.hid ⟨hl, hn, HU.out, fun ad e => (hb ad e).2⟩
  have HAD := Lib.hid (show ∀ ad, a' = some ad → w.heap.size ≤ ad.block from fun ad e => by have h1 := (hb ad e).1; have := HB2.out.size; omega)
  clear PC hl hb B3 c3 X2 HZ2 HB2
  go_upto_region 2 with fail
  clear X3 f3 e3
  have W4 : Hid (XgB (w3.setCell ⟨xb, 3, none⟩ (.slice a' n c')) xb ⟨f, oe, op, a', n, c', cnt, ⟨kn, kp⟩⟩) := Lib.hid X4.out
  have R4 : Hid (XgB (w3.setCell ⟨xb, 3, none⟩ (.slice a' n c')) rb zeroX) := Lib.hid Z4.out
  have FIN : Hid (XT ((w3.setCell ⟨xb, 3, none⟩ (.slice a' n c')).setRow rb (encXg ⟨f, oe, op, a', n, c', cnt, ⟨kn, kp⟩⟩).toArray) ⟨f, oe, op, a', n, c', cnt, ⟨kn, kp⟩⟩) := Lib.hid (T3.out.kept fun ad e => by
    have h1 := T3.out.ne ad e (HX4.out.is) (by decide)
    have h2 := T3.out.ne ad e (Z3.out.is) (by decide)
    exact (setRow_other _ _ _ _ h2).trans (heap_setCell_other w3 _ _ _ h1))
  have HB4 : Hid (Below w.heap.size w ((w3.setCell ⟨xb, 3, none⟩ (.slice a' n c')).setRow rb (encXg ⟨f, oe, op, a', n, c', cnt, ⟨kn, kp⟩⟩).toArray)) := Lib.hid (by
    have h1 : Below w.heap.size w (w3.setCell ⟨xb, 3, none⟩ (.slice a' n c')) := HB3.out.setCell (by have := HN.out; show w.heap.size ≤ xb; omega) _
    exact ⟨h1.os, h1.tape, h1.output, by rw [size_setRow]; exact h1.size, fun k hk => (setRow_other _ _ _ _ (by have := HN.out; omega)).trans (h1.block k hk)⟩)
  clear X4 Z4 Z3 T3 HB3
  generalize (w3.setCell ⟨xb, 3, none⟩ (.slice a' n c')) = w4 at *
  go_wp2_with (first | (refine load_xgb rfl (.tmp 1) rfl xb rfl W4.out ?_) | (refine store_xgb rfl (.tmp 2) (.tmp 7) rfl rb ⟨f, oe, op, a', n, c', cnt, ⟨kn, kp⟩⟩ rfl rfl R4.out ?_))
  (try simp only [Exit.inBlock, Exit.then])
  exact bodyPost_ret (results_xgb rfl _ _ rb rfl (R4.out.row ⟨f, oe, op, a', n, c', cnt, ⟨kn, kp⟩⟩)) rfl ⟨⟨f, oe, op, a', n, c', cnt, ⟨kn, kp⟩⟩, rfl, rfl, FIN.out, HAD.out, HB4.out⟩
section
variable {w : World} {g mb : Nat} {S : Gt}
set_option maxHeartbeats 1000000 in
theorem ghas (h : GtB w g mb S) (z : Int) (hz : I64k z) :
    Calls Tryd.prog 39 #[.pointer (some ⟨g, 0, none⟩), .int .i64 z] w fun e w' => e = .returned (.bool (S.H z).isSome) ∧ Below w.heap.size w w' := by
  have c3 := h.c3
  have hlook := fun (W : World) (hb : W.heap[mb]? = w.heap[mb]?) => ((h.map.kept hb).look mapX zeroX zeroXv z hz).2
  have hl := hlook w rfl
  obtain ⟨y, hy⟩ : ∃ y, y = (S.H z).getD zeroX := ⟨_, rfl⟩
  rw [← hy] at hl
  generalize (S.H z).isSome = d at *
  obtain ⟨yw, ye, yp, ya, yn, yc, ycnt, ykn, ykp⟩ := y
  unfold encXv encXg at hl
  simp only at hl
  have HB := Lib.hid ((Grw.refl w).alloc (.cells #[.int .i64 yw, .int .u64 ye, .int .i64 yp, .slice ya yn yc, .int .u64 ykn, .int .i64 ykp] 38)).below
  clear h hlook hy hz
  go_enter Tryd.func39, Tryd.ntmps39
  go_wp2
  go_ret
  exact ⟨rfl, HB.out⟩
/-- New. -/
theorem gnew (e r : Int) (M : Nat) (w : World) (hM : M < 18446744073709551616) :
    Calls Tryd.prog 10 #[.agg #[.int .u64 e, .int .i64 r], .int .u64 (M : Int)] w fun ee w' => ∃ g mb, ee = .returned (.pointer (some ⟨g, 0, none⟩)) ∧ GtB w' g mb (newG e r M) ∧ w.heap.size ≤ g ∧ w.heap.size ≤ mb ∧ Below w.heap.size w w' := by
  have hmm := @run_makeMap Tryd.prog
  have M2 := MapI.made encXv (w.alloc (.cells #[.int .u64 e, .int .i64 r] 24))
  have s1 : (w.alloc (.cells #[.int .u64 e, .int .i64 r] 24)).heap.size = w.heap.size + 1 := by simp
  have s2 : ((w.alloc (.cells #[.int .u64 e, .int .i64 r] 24)).alloc (.map #[] 0)).heap.size = w.heap.size + 1 + 1 := by simp
  have O3 := Own.new ((w.alloc (.cells #[.int .u64 e, .int .i64 r] 24)).alloc (.map #[] 0)) 71 #[.int .u64 e, .int .i64 r, .int .u64 (M : Int), .map (some (w.heap.size + 1)), .int .u64 0]
  rw [s2] at O3
  rw [s1] at M2
  have M3 := M2.below ((Grw.refl _).alloc (.cells #[.int .u64 e, .int .i64 r, .int .u64 (M : Int), .map (some (w.heap.size + 1)), .int .u64 0] 71)).below
  have HB := Lib.hid ((((Grw.refl w).alloc (.cells #[.int .u64 e, .int .i64 r] 24)).alloc (.map #[] 0)).alloc (.cells #[.int .u64 e, .int .i64 r, .int .u64 (M : Int), .map (some (w.heap.size + 1)), .int .u64 0] 71)).below
  have HG : Hid (GtB (((w.alloc (.cells #[.int .u64 e, .int .i64 r] 24)).alloc (.map #[] 0)).alloc (.cells #[.int .u64 e, .int .i64 r, .int .u64 (M : Int), .map (some (w.heap.size + 1)), .int .u64 0] 71)) (w.heap.size + 1 + 1) (w.heap.size + 1) (newG e r M)) := Lib.hid ⟨O3, M3, fun k x h => (by cases h), GtOk.new e r M hM⟩
  clear M2 M3 O3 s1 s2
  go_enter Tryd.func10, Tryd.ntmps10
  go_wp2
  go_ret
  exact ⟨w.heap.size + 1 + 1, w.heap.size + 1, rfl, HG.out, by omega, by omega, HB.out⟩
end
end Go.Proofs.YtmaiphgmnammgaaDoor
