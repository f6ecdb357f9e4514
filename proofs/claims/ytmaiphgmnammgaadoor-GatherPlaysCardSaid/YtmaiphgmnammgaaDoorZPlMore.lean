/- Layer 15: a companion more: plain facts, and a row of exchanges of the call's own. -/
import Derived.Test.YtmaiphgmnammgaaDoorZPlLaws
import Derived.Test.YtmaiphgmnammgaaDoorZSMaps
import Derived.Test.YtmaiphgmnammgaaDoorZPops
set_option linter.unusedVariables false
set_option maxRecDepth 100000
set_option linter.unusedSimpArgs false
namespace Go.Proofs.YtmaiphgmnammgaaDoor
open Go.RowKit Go.Sort Go.Shelf Go.Maps

theorem but_bit (a b i : Nat) (hi : i < 64) : (but a b).testBit i = (a.testBit i && !b.testBit i) := by unfold but; rw [num_bit, decide_eq_true hi]; rfl
theorem any_bit (a b i : Nat) (hi : i < 64) : (any a b).testBit i = (a.testBit i || b.testBit i) := by unfold any; rw [num_bit, decide_eq_true hi]; rfl
theorem one_bit (z : Int) (i : Nat) (hi : i < 64) : (ofl [z]).testBit i = decide ((i : Int) = z) := by
  unfold ofl; rw [num_bit, decide_eq_true hi]; simp [List.contains_eq_mem]
theorem but_out {a : Nat} {z : Int} (ha : a < 18446744073709551616) (hm : mem a z = false) : but a (ofl [z]) = a := by
  refine set_ext _ _ (but_lt _ _) ha fun i hi => ?_
  rw [but_bit _ _ _ hi, one_bit _ _ hi]
  by_cases e : (i : Int) = z
  · subst e; rw [mem_nat a i hi] at hm; rw [hm]; rfl
  · rw [decide_eq_false e]; simp
theorem but_add {a : Nat} {z : Int} (ha : a < 18446744073709551616) (hm : mem a z = false) : but (any a (onl z)) (ofl [z]) = a := by
  refine set_ext _ _ (but_lt _ _) ha fun i hi => ?_
  rw [but_bit _ _ _ hi, any_bit _ _ _ hi, onl_bit _ _ hi, one_bit _ _ hi]
  by_cases e : (i : Int) = z
  · subst e; rw [mem_nat a i hi] at hm; rw [hm, decide_eq_true rfl]; rfl
  · rw [decide_eq_false e]; simp
theorem whX_more (x : Xg) (f : Nat → Wh) (q : Int) : wholeP f q ≤ wholeP (whX x f) q := by
  unfold wholeP
  split
  · unfold whX wh1
    rw [if_pos (by omega)]
    split
    · rename_i hb
      unfold better at hb
      simp only [Bool.or_eq_true, Bool.and_eq_true, decide_eq_true_eq] at hb
      simp only
      omega
    · exact Int.le_refl _
  · exact Int.le_refl _
theorem last_more (l : List K) (k : K) (h : l ≠ []) : decide (kcmp (lastK (l ++ [k])) (lastK l) < 0) = false := by
  refine decide_eq_false fun hc => ?_
  rw [kcmp_neg, lastK_snoc l k h] at hc
  split at hc
  · rename_i hl
    rw [K.less_asymm hl] at hc; cases hc
  · rw [K.less_irrefl] at hc; cases hc
/-- What one more exchange changes. -/
structure MoreP (P Q : Pn) (z : Int) (b : Bool) : Prop where
  cp : P.cs < 18446744073709551616
  cq : Q.cs < 18446744073709551616
  wi : mem Q.cs z = b
  ls : but Q.cs (ofl [z]) = P.cs
  ky : decide (kcmp Q.bd P.bd < 0) = false
  wh : ∀ q, wholeP P.f q ≤ wholeP Q.f q
  eq : b = false → Q = P
theorem more_is {l : List Xg} {me : Int} {x y y' : Xg} (hp : HasPlan l me y) (hq : HasPlan (l ++ [x]) me y') : ∃ b, MoreP (planL (compL y l)) (planL (compL y' (l ++ [x]))) x.w b := by
  have e : y' = y := hq.ap.one hq.mem (by simp [hp.mem]) (by rw [hq.me, hp.me])
  subst e
  have hx := hq.ap.in_ x (by simp)
  have hno : mem (csL (compL y' l)) x.w = false := by
    cases hm : mem (csL (compL y' l)) x.w with
    | false => rfl
    | true =>
      obtain ⟨_, _, z, hz, he⟩ := (csL_mem _ _).1 hm
      have hz1 := (List.mem_filter.1 hz).1
      have hn := hq.ap.nd
      rw [List.map_append, List.nodup_append] at hn
      exact absurd he (hn.2.2 z.w (List.mem_map_of_mem hz1) x.w (by simp))
  cases hs : sameOld x y' with
  | false =>
    rw [comp_skip y' x l hs]
    exact ⟨false, csL_lt _, csL_lt _, hno, but_out (csL_lt _) hno, decide_eq_false (by rw [kcmp_neg, K.less_irrefl]; decide), fun q => Int.le_refl _, fun _ => rfl⟩
  | true =>
    rw [comp_snoc y' x l hs]
    refine ⟨true, csL_lt _, csL_lt _, (csL_mem _ _).2 ⟨hx.1, hx.2, x, by simp, rfl⟩, ?_, ?_, fun q => ?_, fun h => by cases h⟩
    · show but (csL (compL y' l ++ [x])) (ofl [x.w]) = csL (compL y' l)
      rw [csL_snoc]
      exact but_add (csL_lt _) hno
    · show decide (kcmp (lastK ((compL y' l ++ [x]).map Xg.k)) (lastK ((compL y' l).map Xg.k)) < 0) = false
      rw [List.map_append]
      refine last_more _ _ ?_
      have := comp_self hp
      intro h0
      have := List.mem_map_of_mem (f := Xg.k) this
      rw [h0] at this
      cases this
    · show wholeP (whL (compL y' l)) q ≤ wholeP (whL (compL y' l ++ [x])) q
      rw [whL_snoc]
      exact whX_more _ _ _
/-! ### A row of exchanges of the call's own -/
theorem encXg_one (m : Xg) : ∀ u ∈ encXg m, u.oneCell' = true := by
  intro u hu
  simp only [encXg, List.mem_cons, List.not_mem_nil, or_false] at hu
  rcases hu with rfl | rfl | rfl | rfl | rfl | rfl <;> rfl
theorem flatX_one {l : List Xg} : ∀ u ∈ flat encXg l, u.oneCell' = true := by
  intro u hu
  unfold flat at hu
  obtain ⟨c, hc, huc⟩ := List.mem_flatten.1 hu
  obtain ⟨m, _, rfl⟩ := List.mem_map.1 hc
  exact encXg_one m u huc
def zeroXg : Value := .agg #[.int .i64 0, .int .u64 0, .int .i64 0, .slice none 0 0, .int .u64 0, .int .i64 0]
theorem infoXg : (Tryd.prog.info? 38).map (fun i => (i.zero, i.size, i.bytes)) = some (some zeroXg, 6, 64) := by kernel_rfl
theorem wp_append_xg (w : World) {o : Oper} {a : Act} {K : Act → World → Prop} {Q : Exit → Act → World → Prop} (s x : Operand)
    (ho : o.op = .call { callee := .builtin .append, args := #[s, x], argTypes := #[31, 31] })
    (base : Nat) (v : Value) (n : Nat) (xs : List Value) (hs : a.eval s = v) (hown : w.ownsRow base 38 6 v n xs)
    (ao : Option Addr) (m c : Nat) (l : List Xg) (hx : a.eval x = .slice ao m c) (hnil : ao = none → c = 0) (hl : Lst encXg 6 w ao m l) (hn : n + m ≤ 200000) (hbase : base ≤ w.heap.size)
    (h : ∀ v' w', w'.ownsRow base 38 6 v' (n + m) (xs ++ flat encXg l) → w.grownBy w' v.ownBlock → K (a.put o.dst v') w') : o.wp Tryd.prog a w K Q := by
  obtain ⟨i0, hi, hz0, hz1, hz2⟩ := info_parts infoXg
  have ht := Tryd.underlying31
  cases ao with
  | none =>
    have hm : m = 0 := by
      rcases Nat.eq_zero_or_pos m with e | e
      · exact e
      · obtain ⟨b, o', e', _⟩ := hl.src e; cases e'
    subst hm
    have hc := hnil rfl
    subst hc
    have hl0 : l = [] := List.eq_nil_of_length_eq_zero hl.size
    subst hl0
    have hrun := run_append_owned_none (P := Tryd.prog) (w := w) base 31 o.type 38 i0 6 ht hi v n xs hown
    unfold Oper.wp
    simp [execOp, ho, resolve, invoke, builtin, hs, hx, hrun, Result.andThen]
    exact h v w (by simpa [flat_nil] using hown) (World.grownBy.refl w _)
  | some ad =>
    refine wp_append_own w s x 31 ho base 38 i0 zeroXg 6 64 ht hi hz0 hz1 hz2 rfl (by decide) v n xs hs hown ad m c (flat encXg l) hx (by rw [flat_length encXg 6 encXg_length, hl.size]) (fun j u hu => ?_) flatX_one (by unfold maxLen; omega) (by omega) hbase (fun v' w' h1 h2 _ => h v' w' h1 h2)
    have hj : j < m * 6 := by have := (List.getElem?_eq_some_iff.1 hu).1; rw [flat_length encXg 6 encXg_length, hl.size] at this; exact this
    obtain ⟨b, o', e', R⟩ := hl.src (by omega)
    cases e'
    rw [add_lit10]
    exact R.flat encXg_length j u hu
theorem lst_xg1 {w : World} {g : Nat} {m : Xg} (h : XgB w g m) : Lst encXg 6 w (some ⟨g, 0, none⟩) 1 [m] := by
  refine ⟨rfl, fun _ => ⟨g, 0, rfl, fun i x hx c v hv => ?_⟩⟩
  have hi : i < 1 := (List.getElem?_eq_some_iff.1 hx).1
  obtain rfl : i = 0 := by omega
  cases hx
  rw [Nat.zero_mul, Nat.zero_add]
  exact h.own.at_ c v (by rw [List.getElem?_toArray]; exact hv)
theorem yields_xgm {ops : Array Oper} {S : World → Prop} {op : Oper} {a : Act} (hw : Region.wanted op (yielded ops a.tmps) = true) (x : Operand) (ho : op.op = .load 38 x)
    (g o : Nat) (hx : a.eval x = .pointer (some ⟨g, o, none⟩)) {m : Xg} (hS : ∀ w, S w → w.rangeAt g o (encXg m)) : YieldsIf Tryd.prog ops S op (.agg #[.int .i64 m.w, .int .u64 m.oe, .int .i64 m.op, .slice m.a m.n m.c, .int .u64 m.k.n, .int .i64 m.k.p]) a :=
  yieldsIf_load_mid hw 38 x ho g o hx (encXg m) _ (fun w' hS' => hS w' hS') Tryd.underlying38 rfl xg_size
theorem xgb_range {w : World} {b : Nat} {m : Xg} (h : XgB w b m) : w.rangeAt b 0 (encXg m) := fun j u hj => by
  rw [Nat.zero_add]
  exact h.own.at_ j u (by rw [← List.getElem?_toArray] at hj; exact hj)
theorem more_xl {W w : World} {base n : Nat} {ao za : Option Addr} {zc : Nat} {l : List Xg} {x : Xg} (hl : XgL W ao n l) (hx : XgIn W x ∧ x.ok) (hb : Below W.heap.size W w)
    (h : w.ownsRow base 38 6 (.slice za (n + 1) zc) (n + 1) (flat encXg (l ++ [x]))) : XgL w za (n + 1) (l ++ [x]) :=
  ⟨own_lst' encXg_length (by rw [List.length_append, hl.at_.size]; rfl) h, fun y hy => by
    rcases List.mem_append.1 hy with hy | hy
    · exact ⟨(hl.in_ y hy).1.below hb, (hl.in_ y hy).2⟩
    · rw [List.mem_singleton.1 hy]; exact ⟨hx.1.below hb, hx.2⟩⟩
theorem in_one (w : World) (z : Int) (z0 : -9223372036854775808 ≤ z) (z1 : z ≤ 9223372036854775807) : InI (w.alloc (.cells #[.int .i64 z] 3)) (some ⟨w.heap.size, 0, none⟩) 1 [z] := by
  refine ⟨rfl, fun j v hj => ⟨_, rfl, ?_⟩, fun v hv => by rw [List.mem_singleton.1 hv]; exact ⟨z0, z1⟩⟩
  have hj1 : j < 1 := (List.getElem?_eq_some_iff.1 hj).1
  obtain rfl : j = 0 := by omega
  cases hj
  exact (Own.new w 3 #[.int .i64 z]).at_ 0 _ rfl
end Go.Proofs.YtmaiphgmnammgaaDoor
