/- The document's ear: Add. (Written by wip/gen_refadd.py.) -/
import Derived.Test.YtcjbjcojmjfmaaaRefEar3
import Derived.Laws.AppendOwnNone
set_option linter.unusedVariables false
set_option linter.unusedSimpArgs false
namespace Go.Proofs.Ytcjbjcojmjfmaaa
open Go.RowKit Go.Sort

theorem encS_one (s : Sd) : ∀ u ∈ encS s, u.oneCell' = true := by
  intro u hu
  simp only [encS, List.mem_cons, List.not_mem_nil, or_false] at hu
  rcases hu with rfl | rfl | rfl | rfl | rfl | rfl | rfl | rfl | rfl <;> rfl
theorem flatS_one {l : List Sd} : ∀ u ∈ flat encS l, u.oneCell' = true := by
  intro u hu
  unfold flat at hu
  obtain ⟨c, hc, huc⟩ := List.mem_flatten.1 hu
  obtain ⟨m, _, rfl⟩ := List.mem_map.1 hc
  exact encS_one m u huc
def zeroSd : Value := .agg #[.int .i64 0, .int .i64 0, .bool false, .bool false, .int .u64 0, .int .i64 0, .int .u64 0, .int .i64 0, .int .u64 0]
theorem infoSd : (Try.prog.info? 39).map (fun i => (i.zero, i.size, i.bytes)) = some (some zeroSd, 9, 64) := by kernel_rfl
theorem rf_size : (Try.prog.info? 31).map (·.size) = some 5 := by kernel_rfl
/-- 'append' onto a row of the call's own, whatever slice the source is. -/
theorem wp_append_any9 (w : World) {o : Oper} {a : Act} {K : Act → World → Prop} {Q : Exit → Act → World → Prop} (s x : Operand) (t : TypeId) (ht : Try.prog.underlying t = some (.slice 39))
    (ho : o.op = .call { callee := .builtin .append, args := #[s, x], argTypes := #[t, t] })
    (base : Nat) (v : Value) (n : Nat) (xs : List Value) (hs : a.eval s = v) (hown : w.ownsRow base 39 9 v n xs)
    (ao : Option Addr) (m c : Nat) (l : List Sd) (hx : a.eval x = .slice ao m c) (hnil : ao = none → c = 0) (hl : Lst encS 9 w ao m l) (hn : n + m ≤ 200000) (hbase : base ≤ w.heap.size)
    (h : ∀ v' w', w'.ownsRow base 39 9 v' (n + m) (xs ++ flat encS l) → w.grownBy w' v.ownBlock → K (a.put o.dst v') w') : o.wp Try.prog a w K Q := by
  obtain ⟨i0, hi, hz0, hz1, hz2⟩ := info_parts infoSd
  cases ao with
  | none =>
    have hm : m = 0 := by
      rcases Nat.eq_zero_or_pos m with e | e
      · exact e
      · obtain ⟨b, o', e', _⟩ := hl.src e; cases e'
    subst hm
    have hc := hnil rfl
    subst hc
    have hl0 : l = [] := List.eq_nil_of_length_eq_zero hl.size
    subst hl0
    have hrun := run_append_owned_none (P := Try.prog) (w := w) base t o.type 39 i0 9 ht hi v n xs hown
    unfold Oper.wp
    simp [execOp, ho, resolve, invoke, builtin, hs, hx, hrun, Result.andThen]
    exact h v w (by simpa [flat_nil] using hown) (World.grownBy.refl w _)
  | some ad =>
    refine wp_append_own w s x t ho base 39 i0 zeroSd 9 64 ht hi hz0 hz1 hz2 rfl (by decide) v n xs hs hown ad m c (flat encS l) hx (by rw [flat_length encS 9 encS_length, hl.size]) (fun j u hu => ?_) flatS_one (by unfold maxLen; omega) (by omega) hbase (fun v' w' h1 h2 _ => h v' w' h1 h2)
    have hj : j < m * 9 := by have := (List.getElem?_eq_some_iff.1 hu).1; rw [flat_length encS 9 encS_length, hl.size] at this; exact this
    obtain ⟨b, o', e', R⟩ := hl.src (by omega)
    cases e'
    rw [hadd_lit]
    exact R.flat encS_length j u hu
def RaddPost (w : World) (M : Rf) (s : Sd) (ao : Option Addr) (e : Ending) (w' : World) : Prop :=
  ∃ ao' cap', e = .returned (.agg #[.int .i64 (addM M s).me, .int .i64 (addM M s).n, .int .i64 (addM M s).timeout, .int .i64 (addM M s).now, .slice ao' (addM M s).all.length cap']) ∧ RfAt w' (addM M s) ao' ∧ (ao' = none → cap' = 0) ∧ (∀ x, ao' = some x → ao = some x ∨ w.heap.size ≤ x.block) ∧ Below w.heap.size w w'
/-- The document's ear in a block. -/
def RfB (w : World) (g : Nat) (a b c d : Int) (v : Value) : Prop := Own w g 31 #[.int .i64 a, .int .i64 b, .int .i64 c, .int .i64 d, v]
theorem RfB.own {w : World} {g : Nat} {a b c d : Int} {v : Value} (h : RfB w g a b c d v) : Own w g 31 #[.int .i64 a, .int .i64 b, .int .i64 c, .int .i64 d, v] := h
theorem RfB.lt {w : World} {g : Nat} {a b c d : Int} {v : Value} (h : RfB w g a b c d v) : g < w.heap.size := h.own.lt
theorem RfB.below {w w' : World} {g : Nat} {a b c d : Int} {v : Value} (h : RfB w g a b c d v) (hb : Below w.heap.size w w') : RfB w' g a b c d v := (hb.block g h.lt).trans h
theorem RfB.grown {w w' : World} {g : Nat} {a b c d : Int} {v : Value} {o : Option Nat} (h : RfB w g a b c d v) (hb : w.grownBy w' o) (ho : ∀ k, o = some k → g ≠ k) : RfB w' g a b c d v := (hb.block g h.lt (fun e => ho g e.symm rfl)).trans h
theorem RfB.put {w : World} {g : Nat} {a b c d : Int} {v : Value} (h : RfB w g a b c d v) (a' b' c' d' : Int) (v' : Value) : RfB (w.setRow g #[.int .i64 a', .int .i64 b', .int .i64 c', .int .i64 d', v']) g a' b' c' d' v' := setRow_heap _ _ _ _ _ _ h
theorem SdB.grown {w w' : World} {g : Nat} {s : Sd} {o : Option Nat} (h : SdB w g s) (hb : w.grownBy w' o) (ho : ∀ k, o = some k → g ≠ k) : SdB w' g s := (hb.block g h.lt (fun e => ho g e.symm rfl)).trans h
theorem rf_one (a b c d : Int) (x : Option Addr) (n m : Nat) : (#[.int .i64 a, .int .i64 b, .int .i64 c, .int .i64 d, .slice x n m] : Array Value).all (·.oneCell') = true := by simp [Value.oneCell']
theorem store_rf {ops : Array Oper} {rest : List Oper} {o : Oper} {A : Act} {w : World} {Q : Exit → Act → World → Prop} (hgd : o.guard = none) (x y : Operand) (ho : o.op = .store 31 x y)
    (g : Nat) (a b c d : Int) (u : Option Addr) (n m : Nat) (hx : A.eval x = .pointer (some ⟨g, 0, none⟩)) (hy : A.eval y = .agg #[.int .i64 a, .int .i64 b, .int .i64 c, .int .i64 d, .slice u n m])
    {a0 b0 c0 d0 : Int} {v0 : Value} (hg : RfB w g a0 b0 c0 d0 v0) (h : wpList Try.prog ops Q rest (A.put o.dst undef) (w.setRow g #[.int .i64 a, .int .i64 b, .int .i64 c, .int .i64 d, .slice u n m])) : wpList Try.prog ops Q (o :: rest) A w :=
  wpList_store_row hgd 31 x y ho g _ hx hy 31 _ hg rf_size rfl (rf_one a b c d u n m) h
theorem results_rf {fn : Func} {p : Tmp} (h : fn.results = #[.cell p 31]) (tmps : Array Value) (w : World) (g : Nat) {a b c d : Int} {v : Value}
    (hp : tmps.getD p undef = .pointer (some ⟨g, 0, none⟩)) (hg : RfB w g a b c d v) :
    (results fn tmps).run Try.prog w = .ok (.agg #[.int .i64 a, .int .i64 b, .int .i64 c, .int .i64 d, v]) w :=
  results_cell_row h tmps w g 31 _ (0, 0) _ hp hg Try.underlying31 rfl rf_size

def sNow (M : Rf) (s : Sd) : Sd := { s with at_ := M.now }
theorem ownS_behind {w : World} {base n k : Nat} {t : TypeId} {v : Value} {xs : List Value} (h : w.ownsRow base t k v n xs) : ∀ g, v.ownBlock = some g → base ≤ g := by
  intro g hg
  rcases h.2 with ⟨rfl, _⟩ | ⟨g', c, cur, rfl, hb, _⟩
  · simp [Value.ownBlock] at hg
  · simp [Value.ownBlock] at hg; omega
theorem ownS_grown {w w' : World} {base n k b : Nat} {t : TypeId} {v : Value} {xs : List Value} (h : w.ownsRow base t k v n xs) (hg : w.grownBy w' (some b)) (hb : b < base) : w'.ownsRow base t k v n xs := by
  refine ⟨h.1, ?_⟩
  rcases h.2 with h1 | ⟨g, c, cur, h1, h2, h3, h4⟩
  · exact .inl h1
  · exact .inr ⟨g, c, cur, h1, h2, (hg.block g (Array.getElem?_eq_some_iff.1 h3).1 (by intro e; cases e; omega)).trans h3, h4⟩
theorem own_ltS {w : World} {base n nb : Nat} {t : TypeId} {xs : List Value} {k : Nat} (h : w.ownsRow base t k (.slice (some ⟨nb, 0, none⟩) n 0) n xs) : nb < w.heap.size := by
  rcases h.2 with ⟨h1, _⟩ | ⟨g, c, cur, h1, _, h3, _⟩
  · cases h1
  · injection h1 with h1; injection h1 with h1; injection h1 with h1; subst h1; exact (Array.getElem?_eq_some_iff.1 h3).1
theorem lst_oneS {w : World} {g : Nat} {s : Sd} (h : SdB w g s) : Lst encS 9 w (some ⟨g, 0, none⟩) 1 [s] := by
  refine ⟨rfl, fun _ => ⟨g, 0, rfl, fun i x hx c v hv => ?_⟩⟩
  have hi : i < 1 := (List.getElem?_eq_some_iff.1 hx).1
  obtain rfl : i = 0 := by omega
  cases hx
  rw [show 0 + 0 * 9 + c = c by omega]
  exact h.own.at_ c v (by show (encS s).toArray[c]? = some v; rw [List.getElem?_toArray]; exact hv)
/-- Amid Add. -/
structure AddSt (w V : World) (e0 : Nat) (M : Rf) (ao : Option Addr) (cap : Nat) (s : Sd) : Prop where
  below : Below e0 w V
  e : RfB V e0 M.me M.n M.timeout M.now (.slice ao M.all.length cap)
  s : SdB V (e0 + 1) (sNow M s)
  r : RfB V (e0 + 2) 0 0 0 0 (.slice none 0 0)
  z : e0 + 3 ≤ V.heap.size
theorem AddSt.later {w V V' : World} {e0 : Nat} {M : Rf} {ao : Option Addr} {cap : Nat} {s : Sd} (h : AddSt w V e0 M ao cap s) (hb : Below V.heap.size V V') : AddSt w V' e0 M ao cap s :=
  ⟨h.below.trans (hb.mono (by have := h.z; omega)), h.e.below hb, h.s.below hb, h.r.below hb, Nat.le_trans h.z hb.size⟩
theorem AddSt.grown {w V V' : World} {e0 : Nat} {M : Rf} {ao : Option Addr} {cap : Nat} {s : Sd} {o : Option Nat} (h : AddSt w V e0 M ao cap s) (hg : V.grownBy V' o) (ho : ∀ k, o = some k → e0 + 3 ≤ k) : AddSt w V' e0 M ao cap s :=
  ⟨h.below.grown hg (by have := h.z; omega) (fun k hk => by have := ho k hk; omega), h.e.grown hg (fun k hk => by have := ho k hk; omega), h.s.grown hg (fun k hk => by have := ho k hk; omega), h.r.grown hg (fun k hk => by have := ho k hk; omega), Nat.le_trans h.z hg.size⟩
theorem radd_final {w V : World} {e0 : Nat} {M : Rf} {ao : Option Addr} {cap : Nat} {s : Sd} (h : AddSt w V e0 M ao cap s) (he : e0 = w.heap.size) (hX : addM M s = { M with all := M.all ++ [sNow M s] }) (hok : (addM M s).ok) (hfew : M.all.length < 100000) (v : Value)
    (row : V.ownsRow (e0 + 3) 39 9 v (0 + M.all.length + 1) ([] ++ flat encS M.all ++ flat encS [sNow M s])) :
    ∃ (ao' : Option Addr) (n' cap' : Nat), v = .slice ao' n' cap' ∧ RfB (V.setCell ⟨e0, 4, none⟩ v) e0 M.me M.n M.timeout M.now (.slice ao' n' cap') ∧ RfB (V.setCell ⟨e0, 4, none⟩ v) (e0 + 2) 0 0 0 0 (.slice none 0 0) ∧
      RaddPost w M s ao (.returned (.agg #[.int .i64 M.me, .int .i64 M.n, .int .i64 M.timeout, .int .i64 M.now, .slice ao' n' cap'])) ((V.setCell ⟨e0, 4, none⟩ v).setRow (e0 + 2) #[.int .i64 M.me, .int .i64 M.n, .int .i64 M.timeout, .int .i64 M.now, .slice ao' n' cap']) := by
  have hlen : (addM M s).all.length = 0 + M.all.length + 1 := by rw [hX]; simp
  have row2 := own_eq row hlen.symm (show [] ++ flat encS M.all ++ flat encS [sNow M s] = flat encS (addM M s).all by rw [hX, List.nil_append, ← flat_append])
  obtain ⟨ao', cap', rfl⟩ := own_form' row2
  have g1 : V.grownBy (V.setCell ⟨e0, 4, none⟩ (.slice ao' (addM M s).all.length cap')) (some e0) := egrown_cells e0 [_] 4 V
  have row3 := ownS_grown row2 g1 (by omega)
  have e1 : RfB (V.setCell ⟨e0, 4, none⟩ (.slice ao' (addM M s).all.length cap')) e0 M.me M.n M.timeout M.now (.slice ao' (addM M s).all.length cap') := h.e.own.set 4 _
  have r1 : RfB (V.setCell ⟨e0, 4, none⟩ (.slice ao' (addM M s).all.length cap')) (e0 + 2) 0 0 0 0 (.slice none 0 0) := h.r.own.set_other _ _ _ (by omega)
  have l1 : Below e0 w (V.setCell ⟨e0, 4, none⟩ (.slice ao' (addM M s).all.length cap')) := h.below.setCell (Nat.le_refl _) _
  generalize (V.setCell ⟨e0, 4, none⟩ (.slice ao' (addM M s).all.length cap')) = V1 at *
  refine ⟨ao', _, cap', rfl, e1, r1, ao', cap', ?_, ⟨?_, hok, by rw [hlen]; omega⟩, ?_, ?_, by rw [← he]; exact ebelowRow l1 _ (by omega) _⟩
  · rw [hX]
  · have g2 : V1.grownBy (V1.setRow (e0 + 2) #[.int .i64 M.me, .int .i64 M.n, .int .i64 M.timeout, .int .i64 M.now, .slice ao' (addM M s).all.length cap']) (some (e0 + 2)) :=
      ⟨rfl, rfl, rfl, by rw [size_setRow]; exact Nat.le_refl _, fun k hk hn => setRow_other _ _ _ _ (by intro e; exact hn (by rw [e]))⟩
    exact own_lst' encS_length rfl (ownS_grown row3 g2 (by omega))
  · intro e
    subst e
    rcases own_cases row3 with ⟨h1, _⟩ | ⟨g, c, h1, _⟩
    · injection h1
    · injection h1 with h1; cases h1
  · intro x hx
    subst hx
    have := ownS_behind row3 x.block rfl
    exact .inr (by omega)

set_option maxHeartbeats 8000000 in
set_option maxRecDepth 100000 in
theorem radd {w : World} {M : Rf} {ao : Option Addr} (h : RfAt w M ao) (cap : Nat) (hcap : ao = none → cap = 0) (hfew : M.all.length < 100000) (s : Sd) (p0 : -9223372036854775808 ≤ s.p) (p1 : s.p ≤ 9223372036854775807) :
    Calls Try.prog 11 #[.agg #[.int .i64 M.me, .int .i64 M.n, .int .i64 M.timeout, .int .i64 M.now, .slice ao M.all.length cap], .agg #[.int .i64 s.p, .int .i64 s.at_, .bool s.beat, .bool s.gone, .int .u64 (s.b.ce : Int), .int .i64 s.b.cr, .int .u64 (s.b.pe : Int), .int .i64 s.b.pr, .int .u64 (s.b.ep : Int)]] w (RaddPost w M s ao) := by
  have L1 := ((Grw.refl w).alloc (.cells #[.int .i64 M.me, .int .i64 M.n, .int .i64 M.timeout, .int .i64 M.now, .slice ao M.all.length cap] 31)).below
  have L2 := L1.trans (((Grw.refl (w.alloc (.cells #[.int .i64 M.me, .int .i64 M.n, .int .i64 M.timeout, .int .i64 M.now, .slice ao M.all.length cap] 31))).alloc (.cells #[.int .i64 s.p, .int .i64 s.at_, .bool s.beat, .bool s.gone, .int .u64 (s.b.ce : Int), .int .i64 s.b.cr, .int .u64 (s.b.pe : Int), .int .i64 s.b.pr, .int .u64 (s.b.ep : Int)] 39)).below.mono L1.size)
  have L3 := L2.trans (((Grw.refl ((w.alloc (.cells #[.int .i64 M.me, .int .i64 M.n, .int .i64 M.timeout, .int .i64 M.now, .slice ao M.all.length cap] 31)).alloc (.cells #[.int .i64 s.p, .int .i64 s.at_, .bool s.beat, .bool s.gone, .int .u64 (s.b.ce : Int), .int .i64 s.b.cr, .int .u64 (s.b.pe : Int), .int .i64 s.b.pr, .int .u64 (s.b.ep : Int)] 39))).alloc (.cells #[.int .i64 0, .int .i64 0, .int .i64 0, .int .i64 0, .slice none 0 0] 31)).below.mono L2.size)
  have E3 : RfB (((w.alloc (.cells #[.int .i64 M.me, .int .i64 M.n, .int .i64 M.timeout, .int .i64 M.now, .slice ao M.all.length cap] 31)).alloc (.cells #[.int .i64 s.p, .int .i64 s.at_, .bool s.beat, .bool s.gone, .int .u64 (s.b.ce : Int), .int .i64 s.b.cr, .int .u64 (s.b.pe : Int), .int .i64 s.b.pr, .int .u64 (s.b.ep : Int)] 39)).alloc (.cells #[.int .i64 0, .int .i64 0, .int .i64 0, .int .i64 0, .slice none 0 0] 31)) w.heap.size M.me M.n M.timeout M.now (.slice ao M.all.length cap) := (Own.new w 31 #[.int .i64 M.me, .int .i64 M.n, .int .i64 M.timeout, .int .i64 M.now, .slice ao M.all.length cap]).below (((Grw.refl (w.alloc (.cells #[.int .i64 M.me, .int .i64 M.n, .int .i64 M.timeout, .int .i64 M.now, .slice ao M.all.length cap] 31))).alloc _).alloc _).below (by simp)
  have S3 : SdB (((w.alloc (.cells #[.int .i64 M.me, .int .i64 M.n, .int .i64 M.timeout, .int .i64 M.now, .slice ao M.all.length cap] 31)).alloc (.cells #[.int .i64 s.p, .int .i64 s.at_, .bool s.beat, .bool s.gone, .int .u64 (s.b.ce : Int), .int .i64 s.b.cr, .int .u64 (s.b.pe : Int), .int .i64 s.b.pr, .int .u64 (s.b.ep : Int)] 39)).alloc (.cells #[.int .i64 0, .int .i64 0, .int .i64 0, .int .i64 0, .slice none 0 0] 31)) (w.heap.size + 1) s := by
    have := (SdB.new (w.alloc (.cells #[.int .i64 M.me, .int .i64 M.n, .int .i64 M.timeout, .int .i64 M.now, .slice ao M.all.length cap] 31)) s).below ((Grw.refl _).alloc (.cells #[.int .i64 0, .int .i64 0, .int .i64 0, .int .i64 0, .slice none 0 0] 31)).below
    rw [show (w.alloc (.cells #[.int .i64 M.me, .int .i64 M.n, .int .i64 M.timeout, .int .i64 M.now, .slice ao M.all.length cap] 31)).heap.size = w.heap.size + 1 by simp] at this
    exact this
  have R3 : RfB (((w.alloc (.cells #[.int .i64 M.me, .int .i64 M.n, .int .i64 M.timeout, .int .i64 M.now, .slice ao M.all.length cap] 31)).alloc (.cells #[.int .i64 s.p, .int .i64 s.at_, .bool s.beat, .bool s.gone, .int .u64 (s.b.ce : Int), .int .i64 s.b.cr, .int .u64 (s.b.pe : Int), .int .i64 s.b.pr, .int .u64 (s.b.ep : Int)] 39)).alloc (.cells #[.int .i64 0, .int .i64 0, .int .i64 0, .int .i64 0, .slice none 0 0] 31)) (w.heap.size + 2) 0 0 0 0 (.slice none 0 0) := by
    have := Own.new ((w.alloc (.cells #[.int .i64 M.me, .int .i64 M.n, .int .i64 M.timeout, .int .i64 M.now, .slice ao M.all.length cap] 31)).alloc (.cells #[.int .i64 s.p, .int .i64 s.at_, .bool s.beat, .bool s.gone, .int .u64 (s.b.ce : Int), .int .i64 s.b.cr, .int .u64 (s.b.pe : Int), .int .i64 s.b.pr, .int .u64 (s.b.ep : Int)] 39)) 31 #[.int .i64 0, .int .i64 0, .int .i64 0, .int .i64 0, .slice none 0 0]
    rw [show ((w.alloc (.cells #[.int .i64 M.me, .int .i64 M.n, .int .i64 M.timeout, .int .i64 M.now, .slice ao M.all.length cap] 31)).alloc (.cells #[.int .i64 s.p, .int .i64 s.at_, .bool s.beat, .bool s.gone, .int .u64 (s.b.ce : Int), .int .i64 s.b.cr, .int .u64 (s.b.pe : Int), .int .i64 s.b.pr, .int .u64 (s.b.ep : Int)] 39)).heap.size = w.heap.size + 2 by simp] at this
    exact this
  have H3 := h.below L3
  have HR := rother M h.ok ao cap s.p p0 p1 (((w.alloc (.cells #[.int .i64 M.me, .int .i64 M.n, .int .i64 M.timeout, .int .i64 M.now, .slice ao M.all.length cap] 31)).alloc (.cells #[.int .i64 s.p, .int .i64 s.at_, .bool s.beat, .bool s.gone, .int .u64 (s.b.ce : Int), .int .i64 s.b.cr, .int .u64 (s.b.pe : Int), .int .i64 s.b.pr, .int .u64 (s.b.ep : Int)] 39)).alloc (.cells #[.int .i64 0, .int .i64 0, .int .i64 0, .int .i64 0, .slice none 0 0] 31))
  have HA : Hid (othB M.me M.n s.p = true → addM M s = { M with all := M.all ++ [{ s with at_ := M.now }] }) := Lib.hid (fun e => by unfold addM; rw [if_pos e])
  have HA0 : Hid (othB M.me M.n s.p = false → addM M s = M) := Lib.hid (fun e => by unfold addM; rw [if_neg (by rw [e]; decide)])
  have hsz : 3 + w.heap.size = (((w.alloc (.cells #[.int .i64 M.me, .int .i64 M.n, .int .i64 M.timeout, .int .i64 M.now, .slice ao M.all.length cap] 31)).alloc (.cells #[.int .i64 s.p, .int .i64 s.at_, .bool s.beat, .bool s.gone, .int .u64 (s.b.ce : Int), .int .i64 s.b.cr, .int .u64 (s.b.pe : Int), .int .i64 s.b.pr, .int .u64 (s.b.ep : Int)] 39)).alloc (.cells #[.int .i64 0, .int .i64 0, .int .i64 0, .int .i64 0, .slice none 0 0] 31)).heap.size := by simp; omega
  have hok := Lib.hid h.ok
  have HOA := Lib.hid (ok_add h.ok s)
  have HH0 := Lib.hid h
  clear h L1 L2
  go_enter Try.func11, Try.ntmps11
  go_upto_region 1 with fail
  generalize (((w.alloc (.cells #[.int .i64 M.me, .int .i64 M.n, .int .i64 M.timeout, .int .i64 M.now, .slice ao M.all.length cap] 31)).alloc (.cells #[.int .i64 s.p, .int .i64 s.at_, .bool s.beat, .bool s.gone, .int .u64 (s.b.ce : Int), .int .i64 s.b.cr, .int .u64 (s.b.pe : Int), .int .i64 s.b.pr, .int .u64 (s.b.ep : Int)] 39)).alloc (.cells #[.int .i64 0, .int .i64 0, .int .i64 0, .int .i64 0, .slice none 0 0] 31)) = W at *
  have hll := Lib.hid (show ∀ w', Below w.heap.size w w' → RfAt w' M ao from fun w' hb => HH0.out.below hb)
  clear HH0
  generalize he0 : w.heap.size = e0 at *
  have HE0 := Lib.hid he0
  clear he0
  have v0 := E3.own.at_ 0 _ rfl
  have v1 := E3.own.at_ 1 _ rfl
  have v2 := E3.own.at_ 2 _ rfl
  have v3 := E3.own.at_ 3 _ rfl
  have v4 := E3.own.at_ 4 _ rfl
  have s0 := S3.own.at_ 0 _ rfl
  generalize othB M.me M.n s.p = ob at *
  go_wp2_with fail
  refine HR.mono ?_
  rintro e w4 ⟨rfl, B4⟩
  have E4 := E3.below B4
  have S4 := S3.below B4
  have R4 := R3.below B4
  have H4 := H3.below B4
  have L4 := L3.trans (B4.mono (by omega))
  have hs4 := B4.size
  clear HR B4 E3 S3 R3 H3 L3 v0 v1 v2 v3 v4 s0
  have v0 := E4.own.at_ 0 _ rfl
  have v1 := E4.own.at_ 1 _ rfl
  have v2 := E4.own.at_ 2 _ rfl
  have v3 := E4.own.at_ 3 _ rfl
  have v4 := E4.own.at_ 4 _ rfl
  cases ob
  · have HX := Lib.hid (HA0.out rfl)
    have L5 := ebelowRow L4 (e0 + 2) (by omega) #[.int .i64 M.me, .int .i64 M.n, .int .i64 M.timeout, .int .i64 M.now, .slice ao M.all.length cap]
    have HE4 : Hid (RaddPost w M s ao (.returned (.agg #[.int .i64 M.me, .int .i64 M.n, .int .i64 M.timeout, .int .i64 M.now, .slice ao M.all.length cap])) (w4.setRow (e0 + 2) #[.int .i64 M.me, .int .i64 M.n, .int .i64 M.timeout, .int .i64 M.now, .slice ao M.all.length cap])) := Lib.hid ⟨ao, cap, by rw [HX.out], by rw [HX.out]; exact hll.out _ L5, hcap, fun x hx => .inl hx, by rw [HE0.out]; exact L5⟩
    clear HA HA0 HOA E4 S4 L4 H4 L5
    go_upto_region 4 with fail
    go_wp2_with (refine store_rf rfl (.tmp 4) (.tmp 20) rfl (e0 + 2) M.me M.n M.timeout M.now ao M.all.length cap rfl rfl R4 ?_)
    (try simp only [Exit.inBlock, Exit.then])
    exact bodyPost_ret (results_rf rfl _ _ (e0 + 2) rfl (R4.put _ _ _ _ _)) rfl HE4.out
  · have HX := Lib.hid (HA.out rfl)
    have s1 := S4.own.at_ 1 _ rfl
    have f1 := S4.own.free 1
    have hlt0 := E4.lt
    have hlt2 := R4.lt
    have E5 : RfB (w4.setCell ⟨e0 + 1, 1, none⟩ (.int .i64 M.now)) e0 M.me M.n M.timeout M.now (.slice ao M.all.length cap) := E4.own.set_other _ _ _ (by omega)
    have S5 : SdB (w4.setCell ⟨e0 + 1, 1, none⟩ (.int .i64 M.now)) (e0 + 1) { s with at_ := M.now } := S4.own.set 1 (.int .i64 M.now)
    have R5 : RfB (w4.setCell ⟨e0 + 1, 1, none⟩ (.int .i64 M.now)) (e0 + 2) 0 0 0 0 (.slice none 0 0) := R4.own.set_other _ _ _ (by omega)
    have L5 : Below e0 w (w4.setCell ⟨e0 + 1, 1, none⟩ (.int .i64 M.now)) := L4.setCell (by show e0 ≤ e0 + 1; omega) _
    have z5 : 3 + e0 ≤ (w4.setCell ⟨e0 + 1, 1, none⟩ (.int .i64 M.now)).heap.size := by simp; omega
    clear HA HA0 E4 S4 R4 H4 L4
    go_upto_region 3 with fail
    clear v0 v1 v2 v3 v4 s1 f1
    generalize (w4.setCell ⟨e0 + 1, 1, none⟩ (.int .i64 M.now)) = W5 at *
    have A6 : AddSt w W5.drew e0 M ao cap s := ⟨⟨L5.os, L5.tape, L5.output, L5.size, L5.block⟩, E5, S5, R5, by show e0 + 3 ≤ W5.heap.size; omega⟩
    have KL := Lib.hid (show ∀ w', Below e0 w w' → Lst encS 9 w' ao M.all.length M.all from fun w' hb => (hll.out w' hb).lst)
    have KS := Lib.hid (show ∀ w' : World, SdB w' (e0 + 1) (sNow M s) → w'.rangeAt (e0 + 1) 0 (encS (sNow M s)) from fun w' h j v hj => by rw [Nat.zero_add]; exact h.own.at_ j v (by show (encS (sNow M s)).toArray[j]? = some v; rw [List.getElem?_toArray]; exact hj))
    have HXX : Hid (addM M s = { M with all := M.all ++ [sNow M s] }) := HX
    clear L5 E5 S5 R5 z5 hlt0 hlt2 HX
    refine wp_region_held_drew (S := fun w' => SdB w' (e0 + 1) (sNow M s)) (by kernel_rfl) A6.s (fun hHeld => ?_)
    generalize W5.drew = W6 at *
    refine etake (i := 1) (v := .pointer (some ⟨e0, 4, none⟩)) 13 rfl (by kernel_rfl) (by kernel_rfl) (by kernel_rfl) (by kernel_rfl) (fun _ _ _ h => h) (.inl ⟨by kernel_rfl, fun w' hS => by (go_simp)⟩) hHeld ?_
    (try simp only [Act.put, List.setIfInBounds_toArray, List.set_cons_zero, List.set_cons_succ])
    refine etake (i := 4) (v := .agg #[.int .i64 s.p, .int .i64 M.now, .bool s.beat, .bool s.gone, .int .u64 (s.b.ce : Int), .int .i64 s.b.cr, .int .u64 (s.b.pe : Int), .int .i64 s.b.pr, .int .u64 (s.b.ep : Int)]) 16 rfl (by kernel_rfl) (by kernel_rfl) (by kernel_rfl) (by kernel_rfl) (fun _ _ _ h => h) (yieldsIf_load_mid (by kernel_rfl) 39 (.tmp 3) rfl (e0 + 1) 0 (by kernel_rfl) (encS (sNow M s)) _ (fun w' hS => KS.out w' hS) Try.underlying39 rfl sd_size) hHeld ?_
    (try simp only [Act.put, List.setIfInBounds_toArray, List.set_cons_zero, List.set_cons_succ])
    refine wpAnyH_ready (rs := [0, 2, 5]) (by kernel_rfl) (by simp) (AllReadyH.cons rfl (fun K hK => ?_) (AllReadyH.cons rfl (fun K hK => ?_) (AllReadyH.cons rfl (fun K hK => ?_) AllReadyH.nil)))
    · clear hHeld
      rw [if_pos (by kernel_rfl)]
      go_simp
      have A0n := A6.later ((Grw.refl W6).alloc (.cells #[] 39)).below
      have ROW := own_base (World.ownsRow_made (e := 39) (size := 9) W6 #[] 0 (Nat.le_refl _) (Nat.zero_le _) (by simp)) A6.z
      clear A6
      generalize (W6.alloc (.cells #[] 39)) = U0 at *
      generalize W6.heap.size = nb at *
      refine hK.out _ _ A0n.s (fun hHeld => ?_)
      clear hK K
      (try simp only [Act.put, List.setIfInBounds_toArray, List.set_cons_zero, List.set_cons_succ])
      refine wpAnyH_ready (rs := [2, 5]) (by kernel_rfl) (by simp) (AllReadyH.cons rfl (fun K hK => ?_) (AllReadyH.cons rfl (fun K hK => ?_) AllReadyH.nil))
      · clear hHeld
        rw [if_pos (by kernel_rfl)]
        have c4 := A0n.e.own.at_ 4 _ rfl
        go_simp
        clear c4
        refine hK.out _ _ A0n.s (fun hHeld => ?_)
        clear hK K
        (try simp only [Act.put, List.setIfInBounds_toArray, List.set_cons_zero, List.set_cons_succ])
        refine wpAnyH_ready (rs := [3, 5]) (by kernel_rfl) (by simp) (AllReadyH.cons rfl (fun K hK => ?_) (AllReadyH.cons rfl (fun K hK => ?_) AllReadyH.nil))
        · clear hHeld
          rw [if_pos (by kernel_rfl)]
          refine wp_append_any9 U0 (.tmp 12) (.tmp 14) 29 Try.underlying29 rfl (e0 + 3) (.slice (some ⟨nb, 0, none⟩) 0 0) 0 [] rfl ROW ao M.all.length cap M.all rfl hcap (KL.out U0 A0n.below) (by omega) A0n.z ?_
          intro va U2 ROWA G
          have A2n := A0n.grown G (ownS_behind ROW)
          clear A0n G ROW
          refine hK.out _ _ A2n.s (fun hHeld => ?_)
          clear hK K
          (try simp only [Act.put, List.setIfInBounds_toArray, List.set_cons_zero, List.set_cons_succ])
          refine wpAnyH_ready (rs := [5]) (by kernel_rfl) (by simp) (AllReadyH.cons rfl (fun K hK => ?_) AllReadyH.nil)
          clear hHeld
          rw [if_pos (by kernel_rfl)]
          go_simp
          have A3n := A2n.later ((Grw.refl U2).alloc (.cells #[.int .i64 s.p, .int .i64 M.now, .bool s.beat, .bool s.gone, .int .u64 (s.b.ce : Int), .int .i64 s.b.cr, .int .u64 (s.b.pe : Int), .int .i64 s.b.pr, .int .u64 (s.b.ep : Int)] 39)).below
          have X : SdB (U2.alloc (.cells #[.int .i64 s.p, .int .i64 M.now, .bool s.beat, .bool s.gone, .int .u64 (s.b.ce : Int), .int .i64 s.b.cr, .int .u64 (s.b.pe : Int), .int .i64 s.b.pr, .int .u64 (s.b.ep : Int)] 39)) U2.heap.size (sNow M s) := SdB.new U2 (sNow M s)
          have ROWA := ROWA.alloc (.cells #[.int .i64 s.p, .int .i64 M.now, .bool s.beat, .bool s.gone, .int .u64 (s.b.ce : Int), .int .i64 s.b.cr, .int .u64 (s.b.pe : Int), .int .i64 s.b.pr, .int .u64 (s.b.ep : Int)] 39)
          clear A2n
          have hxl : U2.heap.size < (U2.alloc (.cells #[.int .i64 s.p, .int .i64 M.now, .bool s.beat, .bool s.gone, .int .u64 (s.b.ce : Int), .int .i64 s.b.cr, .int .u64 (s.b.pe : Int), .int .i64 s.b.pr, .int .u64 (s.b.ep : Int)] 39)).heap.size := by simp
          generalize (U2.alloc (.cells #[.int .i64 s.p, .int .i64 M.now, .bool s.beat, .bool s.gone, .int .u64 (s.b.ce : Int), .int .i64 s.b.cr, .int .u64 (s.b.pe : Int), .int .i64 s.b.pr, .int .u64 (s.b.ep : Int)] 39)) = U3 at *
          generalize U2.heap.size = xb at *
          refine hK.out _ _ A3n.s (fun hHeld => ?_)
          clear hK K
          (try simp only [Act.put, List.setIfInBounds_toArray, List.set_cons_zero, List.set_cons_succ])
          refine wpAnyH_ready (rs := [6]) (by kernel_rfl) (by simp) (AllReadyH.cons rfl (fun K hK => ?_) AllReadyH.nil)
          clear hHeld
          rw [if_pos (by kernel_rfl)]
          refine wp_append_any9 U3 (.tmp 15) (.tmp 17) 29 Try.underlying29 rfl (e0 + 3) va (0 + M.all.length) _ rfl ROWA (some ⟨xb, 0, none⟩) 1 1 [sNow M s] rfl (fun e => by cases e) (lst_oneS X) (by omega) A3n.z ?_
          intro vz U4 ROWZ G
          have A4n := A3n.grown G (ownS_behind ROWA)
          clear A3n G ROWA X
          refine hK.out _ _ A4n.s (fun hHeld => ?_)
          clear hK K
          (try simp only [Act.put, List.setIfInBounds_toArray, List.set_cons_zero, List.set_cons_succ])
          refine etake (i := 7) (v := .pointer (some ⟨e0, 4, none⟩)) 19 rfl (by kernel_rfl) (by kernel_rfl) (by kernel_rfl) (by kernel_rfl) (fun _ _ _ h => h) (.inl ⟨by kernel_rfl, fun w' hS => by (go_simp)⟩) hHeld ?_
          (try simp only [Act.put, List.setIfInBounds_toArray, List.set_cons_zero, List.set_cons_succ])
          refine wpAnyH_ready (rs := [8]) (by kernel_rfl) (by simp) (AllReadyH.cons rfl (fun K hK => ?_) AllReadyH.nil)
          clear hHeld
          rw [if_pos (by kernel_rfl)]
          have c4 := A4n.e.own.at_ 4 _ rfl
          have f4 := A4n.e.own.free 4
          have s9 : SdB (U4.setCell ⟨e0, 4, none⟩ vz) (e0 + 1) (sNow M s) := A4n.s.own.set_other _ _ _ (by omega)
          have FIN := radd_final A4n HE0.out.symm HXX.out HOA.out hfew vz ROWZ
          obtain ⟨ao', n', cap', rfl, E9, R9, HP9⟩ := FIN
          have HP9 := Lib.hid HP9
          go_simp
          refine hK.out _ _ s9 (fun hHeld => ?_)
          clear hK K hHeld s9 c4 f4 A4n ROWZ
          (try simp only [Act.put, List.setIfInBounds_toArray, List.set_cons_zero, List.set_cons_succ])
          refine wpAnyH_done (by kernel_rfl) ?_ _
          generalize (U4.setCell ⟨e0, 4, none⟩ (.slice ao' n' cap')) = W9 at *
          have v0 := E9.own.at_ 0 _ rfl
          have v1 := E9.own.at_ 1 _ rfl
          have v2 := E9.own.at_ 2 _ rfl
          have v3 := E9.own.at_ 3 _ rfl
          have v4 := E9.own.at_ 4 _ rfl
          clear E9
          go_wp2_with (refine store_rf rfl (.tmp 4) (.tmp 20) rfl (e0 + 2) M.me M.n M.timeout M.now ao' n' cap' rfl rfl R9 ?_)
          (try simp only [Exit.inBlock, Exit.then])
          exact bodyPost_ret (results_rf rfl _ _ (e0 + 2) rfl (R9.put _ _ _ _ _)) rfl HP9.out
        · clear hHeld
          rw [if_pos (by kernel_rfl)]
          go_simp
          have A2n := A0n.later ((Grw.refl U0).alloc (.cells #[.int .i64 s.p, .int .i64 M.now, .bool s.beat, .bool s.gone, .int .u64 (s.b.ce : Int), .int .i64 s.b.cr, .int .u64 (s.b.pe : Int), .int .i64 s.b.pr, .int .u64 (s.b.ep : Int)] 39)).below
          have X : SdB (U0.alloc (.cells #[.int .i64 s.p, .int .i64 M.now, .bool s.beat, .bool s.gone, .int .u64 (s.b.ce : Int), .int .i64 s.b.cr, .int .u64 (s.b.pe : Int), .int .i64 s.b.pr, .int .u64 (s.b.ep : Int)] 39)) U0.heap.size (sNow M s) := SdB.new U0 (sNow M s)
          have hxn : U0.heap.size ≠ nb := by have := own_ltS ROW; omega
          have ROW := ROW.alloc (.cells #[.int .i64 s.p, .int .i64 M.now, .bool s.beat, .bool s.gone, .int .u64 (s.b.ce : Int), .int .i64 s.b.cr, .int .u64 (s.b.pe : Int), .int .i64 s.b.pr, .int .u64 (s.b.ep : Int)] 39)
          clear A0n
          have hxl : U0.heap.size < (U0.alloc (.cells #[.int .i64 s.p, .int .i64 M.now, .bool s.beat, .bool s.gone, .int .u64 (s.b.ce : Int), .int .i64 s.b.cr, .int .u64 (s.b.pe : Int), .int .i64 s.b.pr, .int .u64 (s.b.ep : Int)] 39)).heap.size := by simp
          generalize (U0.alloc (.cells #[.int .i64 s.p, .int .i64 M.now, .bool s.beat, .bool s.gone, .int .u64 (s.b.ce : Int), .int .i64 s.b.cr, .int .u64 (s.b.pe : Int), .int .i64 s.b.pr, .int .u64 (s.b.ep : Int)] 39)) = U2 at *
          generalize U0.heap.size = xb at *
          refine hK.out _ _ A2n.s (fun hHeld => ?_)
          clear hK K
          (try simp only [Act.put, List.setIfInBounds_toArray, List.set_cons_zero, List.set_cons_succ])
          refine wpAnyH_ready (rs := [3]) (by kernel_rfl) (by simp) (AllReadyH.cons rfl (fun K hK => ?_) AllReadyH.nil)
          clear hHeld
          rw [if_pos (by kernel_rfl)]
          refine wp_append_any9 U2 (.tmp 12) (.tmp 14) 29 Try.underlying29 rfl (e0 + 3) (.slice (some ⟨nb, 0, none⟩) 0 0) 0 [] rfl ROW ao M.all.length cap M.all rfl hcap (KL.out U2 A2n.below) (by omega) A2n.z ?_
          intro va U3 ROWA G
          have A3n := A2n.grown G (ownS_behind ROW)
          have X := X.grown G (fun k hk => by cases hk; exact hxn)
          clear A2n G ROW
          refine hK.out _ _ A3n.s (fun hHeld => ?_)
          clear hK K
          (try simp only [Act.put, List.setIfInBounds_toArray, List.set_cons_zero, List.set_cons_succ])
          refine wpAnyH_ready (rs := [6]) (by kernel_rfl) (by simp) (AllReadyH.cons rfl (fun K hK => ?_) AllReadyH.nil)
          clear hHeld
          rw [if_pos (by kernel_rfl)]
          refine wp_append_any9 U3 (.tmp 15) (.tmp 17) 29 Try.underlying29 rfl (e0 + 3) va (0 + M.all.length) _ rfl ROWA (some ⟨xb, 0, none⟩) 1 1 [sNow M s] rfl (fun e => by cases e) (lst_oneS X) (by omega) A3n.z ?_
          intro vz U4 ROWZ G
          have A4n := A3n.grown G (ownS_behind ROWA)
          clear A3n G ROWA X
          refine hK.out _ _ A4n.s (fun hHeld => ?_)
          clear hK K
          (try simp only [Act.put, List.setIfInBounds_toArray, List.set_cons_zero, List.set_cons_succ])
          refine etake (i := 7) (v := .pointer (some ⟨e0, 4, none⟩)) 19 rfl (by kernel_rfl) (by kernel_rfl) (by kernel_rfl) (by kernel_rfl) (fun _ _ _ h => h) (.inl ⟨by kernel_rfl, fun w' hS => by (go_simp)⟩) hHeld ?_
          (try simp only [Act.put, List.setIfInBounds_toArray, List.set_cons_zero, List.set_cons_succ])
          refine wpAnyH_ready (rs := [8]) (by kernel_rfl) (by simp) (AllReadyH.cons rfl (fun K hK => ?_) AllReadyH.nil)
          clear hHeld
          rw [if_pos (by kernel_rfl)]
          have c4 := A4n.e.own.at_ 4 _ rfl
          have f4 := A4n.e.own.free 4
          have s9 : SdB (U4.setCell ⟨e0, 4, none⟩ vz) (e0 + 1) (sNow M s) := A4n.s.own.set_other _ _ _ (by omega)
          have FIN := radd_final A4n HE0.out.symm HXX.out HOA.out hfew vz ROWZ
          obtain ⟨ao', n', cap', rfl, E9, R9, HP9⟩ := FIN
          have HP9 := Lib.hid HP9
          go_simp
          refine hK.out _ _ s9 (fun hHeld => ?_)
          clear hK K hHeld s9 c4 f4 A4n ROWZ
          (try simp only [Act.put, List.setIfInBounds_toArray, List.set_cons_zero, List.set_cons_succ])
          refine wpAnyH_done (by kernel_rfl) ?_ _
          generalize (U4.setCell ⟨e0, 4, none⟩ (.slice ao' n' cap')) = W9 at *
          have v0 := E9.own.at_ 0 _ rfl
          have v1 := E9.own.at_ 1 _ rfl
          have v2 := E9.own.at_ 2 _ rfl
          have v3 := E9.own.at_ 3 _ rfl
          have v4 := E9.own.at_ 4 _ rfl
          clear E9
          go_wp2_with (refine store_rf rfl (.tmp 4) (.tmp 20) rfl (e0 + 2) M.me M.n M.timeout M.now ao' n' cap' rfl rfl R9 ?_)
          (try simp only [Exit.inBlock, Exit.then])
          exact bodyPost_ret (results_rf rfl _ _ (e0 + 2) rfl (R9.put _ _ _ _ _)) rfl HP9.out
      · clear hHeld
        rw [if_pos (by kernel_rfl)]
        go_simp
        have A1n := A0n.later ((Grw.refl U0).alloc (.cells #[.int .i64 s.p, .int .i64 M.now, .bool s.beat, .bool s.gone, .int .u64 (s.b.ce : Int), .int .i64 s.b.cr, .int .u64 (s.b.pe : Int), .int .i64 s.b.pr, .int .u64 (s.b.ep : Int)] 39)).below
        have X : SdB (U0.alloc (.cells #[.int .i64 s.p, .int .i64 M.now, .bool s.beat, .bool s.gone, .int .u64 (s.b.ce : Int), .int .i64 s.b.cr, .int .u64 (s.b.pe : Int), .int .i64 s.b.pr, .int .u64 (s.b.ep : Int)] 39)) U0.heap.size (sNow M s) := SdB.new U0 (sNow M s)
        have hxn : U0.heap.size ≠ nb := by have := own_ltS ROW; omega
        have ROW := ROW.alloc (.cells #[.int .i64 s.p, .int .i64 M.now, .bool s.beat, .bool s.gone, .int .u64 (s.b.ce : Int), .int .i64 s.b.cr, .int .u64 (s.b.pe : Int), .int .i64 s.b.pr, .int .u64 (s.b.ep : Int)] 39)
        clear A0n
        have hxl : U0.heap.size < (U0.alloc (.cells #[.int .i64 s.p, .int .i64 M.now, .bool s.beat, .bool s.gone, .int .u64 (s.b.ce : Int), .int .i64 s.b.cr, .int .u64 (s.b.pe : Int), .int .i64 s.b.pr, .int .u64 (s.b.ep : Int)] 39)).heap.size := by simp
        generalize (U0.alloc (.cells #[.int .i64 s.p, .int .i64 M.now, .bool s.beat, .bool s.gone, .int .u64 (s.b.ce : Int), .int .i64 s.b.cr, .int .u64 (s.b.pe : Int), .int .i64 s.b.pr, .int .u64 (s.b.ep : Int)] 39)) = U1 at *
        generalize U0.heap.size = xb at *
        refine hK.out _ _ A1n.s (fun hHeld => ?_)
        clear hK K
        (try simp only [Act.put, List.setIfInBounds_toArray, List.set_cons_zero, List.set_cons_succ])
        refine wpAnyH_ready (rs := [2]) (by kernel_rfl) (by simp) (AllReadyH.cons rfl (fun K hK => ?_) AllReadyH.nil)
        clear hHeld
        rw [if_pos (by kernel_rfl)]
        have c4 := A1n.e.own.at_ 4 _ rfl
        go_simp
        clear c4
        refine hK.out _ _ A1n.s (fun hHeld => ?_)
        clear hK K
        (try simp only [Act.put, List.setIfInBounds_toArray, List.set_cons_zero, List.set_cons_succ])
        refine wpAnyH_ready (rs := [3]) (by kernel_rfl) (by simp) (AllReadyH.cons rfl (fun K hK => ?_) AllReadyH.nil)
        clear hHeld
        rw [if_pos (by kernel_rfl)]
        refine wp_append_any9 U1 (.tmp 12) (.tmp 14) 29 Try.underlying29 rfl (e0 + 3) (.slice (some ⟨nb, 0, none⟩) 0 0) 0 [] rfl ROW ao M.all.length cap M.all rfl hcap (KL.out U1 A1n.below) (by omega) A1n.z ?_
        intro va U3 ROWA G
        have A3n := A1n.grown G (ownS_behind ROW)
        have X := X.grown G (fun k hk => by cases hk; exact hxn)
        clear A1n G ROW
        refine hK.out _ _ A3n.s (fun hHeld => ?_)
        clear hK K
        (try simp only [Act.put, List.setIfInBounds_toArray, List.set_cons_zero, List.set_cons_succ])
        refine wpAnyH_ready (rs := [6]) (by kernel_rfl) (by simp) (AllReadyH.cons rfl (fun K hK => ?_) AllReadyH.nil)
        clear hHeld
        rw [if_pos (by kernel_rfl)]
        refine wp_append_any9 U3 (.tmp 15) (.tmp 17) 29 Try.underlying29 rfl (e0 + 3) va (0 + M.all.length) _ rfl ROWA (some ⟨xb, 0, none⟩) 1 1 [sNow M s] rfl (fun e => by cases e) (lst_oneS X) (by omega) A3n.z ?_
        intro vz U4 ROWZ G
        have A4n := A3n.grown G (ownS_behind ROWA)
        clear A3n G ROWA X
        refine hK.out _ _ A4n.s (fun hHeld => ?_)
        clear hK K
        (try simp only [Act.put, List.setIfInBounds_toArray, List.set_cons_zero, List.set_cons_succ])
        refine etake (i := 7) (v := .pointer (some ⟨e0, 4, none⟩)) 19 rfl (by kernel_rfl) (by kernel_rfl) (by kernel_rfl) (by kernel_rfl) (fun _ _ _ h => h) (.inl ⟨by kernel_rfl, fun w' hS => by (go_simp)⟩) hHeld ?_
        (try simp only [Act.put, List.setIfInBounds_toArray, List.set_cons_zero, List.set_cons_succ])
        refine wpAnyH_ready (rs := [8]) (by kernel_rfl) (by simp) (AllReadyH.cons rfl (fun K hK => ?_) AllReadyH.nil)
        clear hHeld
        rw [if_pos (by kernel_rfl)]
        have c4 := A4n.e.own.at_ 4 _ rfl
        have f4 := A4n.e.own.free 4
        have s9 : SdB (U4.setCell ⟨e0, 4, none⟩ vz) (e0 + 1) (sNow M s) := A4n.s.own.set_other _ _ _ (by omega)
        have FIN := radd_final A4n HE0.out.symm HXX.out HOA.out hfew vz ROWZ
        obtain ⟨ao', n', cap', rfl, E9, R9, HP9⟩ := FIN
        have HP9 := Lib.hid HP9
        go_simp
        refine hK.out _ _ s9 (fun hHeld => ?_)
        clear hK K hHeld s9 c4 f4 A4n ROWZ
        (try simp only [Act.put, List.setIfInBounds_toArray, List.set_cons_zero, List.set_cons_succ])
        refine wpAnyH_done (by kernel_rfl) ?_ _
        generalize (U4.setCell ⟨e0, 4, none⟩ (.slice ao' n' cap')) = W9 at *
        have v0 := E9.own.at_ 0 _ rfl
        have v1 := E9.own.at_ 1 _ rfl
        have v2 := E9.own.at_ 2 _ rfl
        have v3 := E9.own.at_ 3 _ rfl
        have v4 := E9.own.at_ 4 _ rfl
        clear E9
        go_wp2_with (refine store_rf rfl (.tmp 4) (.tmp 20) rfl (e0 + 2) M.me M.n M.timeout M.now ao' n' cap' rfl rfl R9 ?_)
        (try simp only [Exit.inBlock, Exit.then])
        exact bodyPost_ret (results_rf rfl _ _ (e0 + 2) rfl (R9.put _ _ _ _ _)) rfl HP9.out
    · clear hHeld
      rw [if_pos (by kernel_rfl)]
      have c4 := A6.e.own.at_ 4 _ rfl
      go_simp
      clear c4
      refine hK.out _ _ A6.s (fun hHeld => ?_)
      clear hK K
      (try simp only [Act.put, List.setIfInBounds_toArray, List.set_cons_zero, List.set_cons_succ])
      refine wpAnyH_ready (rs := [0, 5]) (by kernel_rfl) (by simp) (AllReadyH.cons rfl (fun K hK => ?_) (AllReadyH.cons rfl (fun K hK => ?_) AllReadyH.nil))
      · clear hHeld
        rw [if_pos (by kernel_rfl)]
        go_simp
        have A1n := A6.later ((Grw.refl W6).alloc (.cells #[] 39)).below
        have ROW := own_base (World.ownsRow_made (e := 39) (size := 9) W6 #[] 0 (Nat.le_refl _) (Nat.zero_le _) (by simp)) A6.z
        clear A6
        generalize (W6.alloc (.cells #[] 39)) = U1 at *
        generalize W6.heap.size = nb at *
        refine hK.out _ _ A1n.s (fun hHeld => ?_)
        clear hK K
        (try simp only [Act.put, List.setIfInBounds_toArray, List.set_cons_zero, List.set_cons_succ])
        refine wpAnyH_ready (rs := [3, 5]) (by kernel_rfl) (by simp) (AllReadyH.cons rfl (fun K hK => ?_) (AllReadyH.cons rfl (fun K hK => ?_) AllReadyH.nil))
        · clear hHeld
          rw [if_pos (by kernel_rfl)]
          refine wp_append_any9 U1 (.tmp 12) (.tmp 14) 29 Try.underlying29 rfl (e0 + 3) (.slice (some ⟨nb, 0, none⟩) 0 0) 0 [] rfl ROW ao M.all.length cap M.all rfl hcap (KL.out U1 A1n.below) (by omega) A1n.z ?_
          intro va U2 ROWA G
          have A2n := A1n.grown G (ownS_behind ROW)
          clear A1n G ROW
          refine hK.out _ _ A2n.s (fun hHeld => ?_)
          clear hK K
          (try simp only [Act.put, List.setIfInBounds_toArray, List.set_cons_zero, List.set_cons_succ])
          refine wpAnyH_ready (rs := [5]) (by kernel_rfl) (by simp) (AllReadyH.cons rfl (fun K hK => ?_) AllReadyH.nil)
          clear hHeld
          rw [if_pos (by kernel_rfl)]
          go_simp
          have A3n := A2n.later ((Grw.refl U2).alloc (.cells #[.int .i64 s.p, .int .i64 M.now, .bool s.beat, .bool s.gone, .int .u64 (s.b.ce : Int), .int .i64 s.b.cr, .int .u64 (s.b.pe : Int), .int .i64 s.b.pr, .int .u64 (s.b.ep : Int)] 39)).below
          have X : SdB (U2.alloc (.cells #[.int .i64 s.p, .int .i64 M.now, .bool s.beat, .bool s.gone, .int .u64 (s.b.ce : Int), .int .i64 s.b.cr, .int .u64 (s.b.pe : Int), .int .i64 s.b.pr, .int .u64 (s.b.ep : Int)] 39)) U2.heap.size (sNow M s) := SdB.new U2 (sNow M s)
          have ROWA := ROWA.alloc (.cells #[.int .i64 s.p, .int .i64 M.now, .bool s.beat, .bool s.gone, .int .u64 (s.b.ce : Int), .int .i64 s.b.cr, .int .u64 (s.b.pe : Int), .int .i64 s.b.pr, .int .u64 (s.b.ep : Int)] 39)
          clear A2n
          have hxl : U2.heap.size < (U2.alloc (.cells #[.int .i64 s.p, .int .i64 M.now, .bool s.beat, .bool s.gone, .int .u64 (s.b.ce : Int), .int .i64 s.b.cr, .int .u64 (s.b.pe : Int), .int .i64 s.b.pr, .int .u64 (s.b.ep : Int)] 39)).heap.size := by simp
          generalize (U2.alloc (.cells #[.int .i64 s.p, .int .i64 M.now, .bool s.beat, .bool s.gone, .int .u64 (s.b.ce : Int), .int .i64 s.b.cr, .int .u64 (s.b.pe : Int), .int .i64 s.b.pr, .int .u64 (s.b.ep : Int)] 39)) = U3 at *
          generalize U2.heap.size = xb at *
          refine hK.out _ _ A3n.s (fun hHeld => ?_)
          clear hK K
          (try simp only [Act.put, List.setIfInBounds_toArray, List.set_cons_zero, List.set_cons_succ])
          refine wpAnyH_ready (rs := [6]) (by kernel_rfl) (by simp) (AllReadyH.cons rfl (fun K hK => ?_) AllReadyH.nil)
          clear hHeld
          rw [if_pos (by kernel_rfl)]
          refine wp_append_any9 U3 (.tmp 15) (.tmp 17) 29 Try.underlying29 rfl (e0 + 3) va (0 + M.all.length) _ rfl ROWA (some ⟨xb, 0, none⟩) 1 1 [sNow M s] rfl (fun e => by cases e) (lst_oneS X) (by omega) A3n.z ?_
          intro vz U4 ROWZ G
          have A4n := A3n.grown G (ownS_behind ROWA)
          clear A3n G ROWA X
          refine hK.out _ _ A4n.s (fun hHeld => ?_)
          clear hK K
          (try simp only [Act.put, List.setIfInBounds_toArray, List.set_cons_zero, List.set_cons_succ])
          refine etake (i := 7) (v := .pointer (some ⟨e0, 4, none⟩)) 19 rfl (by kernel_rfl) (by kernel_rfl) (by kernel_rfl) (by kernel_rfl) (fun _ _ _ h => h) (.inl ⟨by kernel_rfl, fun w' hS => by (go_simp)⟩) hHeld ?_
          (try simp only [Act.put, List.setIfInBounds_toArray, List.set_cons_zero, List.set_cons_succ])
          refine wpAnyH_ready (rs := [8]) (by kernel_rfl) (by simp) (AllReadyH.cons rfl (fun K hK => ?_) AllReadyH.nil)
          clear hHeld
          rw [if_pos (by kernel_rfl)]
          have c4 := A4n.e.own.at_ 4 _ rfl
          have f4 := A4n.e.own.free 4
          have s9 : SdB (U4.setCell ⟨e0, 4, none⟩ vz) (e0 + 1) (sNow M s) := A4n.s.own.set_other _ _ _ (by omega)
          have FIN := radd_final A4n HE0.out.symm HXX.out HOA.out hfew vz ROWZ
          obtain ⟨ao', n', cap', rfl, E9, R9, HP9⟩ := FIN
          have HP9 := Lib.hid HP9
          go_simp
          refine hK.out _ _ s9 (fun hHeld => ?_)
          clear hK K hHeld s9 c4 f4 A4n ROWZ
          (try simp only [Act.put, List.setIfInBounds_toArray, List.set_cons_zero, List.set_cons_succ])
          refine wpAnyH_done (by kernel_rfl) ?_ _
          generalize (U4.setCell ⟨e0, 4, none⟩ (.slice ao' n' cap')) = W9 at *
          have v0 := E9.own.at_ 0 _ rfl
          have v1 := E9.own.at_ 1 _ rfl
          have v2 := E9.own.at_ 2 _ rfl
          have v3 := E9.own.at_ 3 _ rfl
          have v4 := E9.own.at_ 4 _ rfl
          clear E9
          go_wp2_with (refine store_rf rfl (.tmp 4) (.tmp 20) rfl (e0 + 2) M.me M.n M.timeout M.now ao' n' cap' rfl rfl R9 ?_)
          (try simp only [Exit.inBlock, Exit.then])
          exact bodyPost_ret (results_rf rfl _ _ (e0 + 2) rfl (R9.put _ _ _ _ _)) rfl HP9.out
        · clear hHeld
          rw [if_pos (by kernel_rfl)]
          go_simp
          have A2n := A1n.later ((Grw.refl U1).alloc (.cells #[.int .i64 s.p, .int .i64 M.now, .bool s.beat, .bool s.gone, .int .u64 (s.b.ce : Int), .int .i64 s.b.cr, .int .u64 (s.b.pe : Int), .int .i64 s.b.pr, .int .u64 (s.b.ep : Int)] 39)).below
          have X : SdB (U1.alloc (.cells #[.int .i64 s.p, .int .i64 M.now, .bool s.beat, .bool s.gone, .int .u64 (s.b.ce : Int), .int .i64 s.b.cr, .int .u64 (s.b.pe : Int), .int .i64 s.b.pr, .int .u64 (s.b.ep : Int)] 39)) U1.heap.size (sNow M s) := SdB.new U1 (sNow M s)
          have hxn : U1.heap.size ≠ nb := by have := own_ltS ROW; omega
          have ROW := ROW.alloc (.cells #[.int .i64 s.p, .int .i64 M.now, .bool s.beat, .bool s.gone, .int .u64 (s.b.ce : Int), .int .i64 s.b.cr, .int .u64 (s.b.pe : Int), .int .i64 s.b.pr, .int .u64 (s.b.ep : Int)] 39)
          clear A1n
          have hxl : U1.heap.size < (U1.alloc (.cells #[.int .i64 s.p, .int .i64 M.now, .bool s.beat, .bool s.gone, .int .u64 (s.b.ce : Int), .int .i64 s.b.cr, .int .u64 (s.b.pe : Int), .int .i64 s.b.pr, .int .u64 (s.b.ep : Int)] 39)).heap.size := by simp
          generalize (U1.alloc (.cells #[.int .i64 s.p, .int .i64 M.now, .bool s.beat, .bool s.gone, .int .u64 (s.b.ce : Int), .int .i64 s.b.cr, .int .u64 (s.b.pe : Int), .int .i64 s.b.pr, .int .u64 (s.b.ep : Int)] 39)) = U2 at *
          generalize U1.heap.size = xb at *
          refine hK.out _ _ A2n.s (fun hHeld => ?_)
          clear hK K
          (try simp only [Act.put, List.setIfInBounds_toArray, List.set_cons_zero, List.set_cons_succ])
          refine wpAnyH_ready (rs := [3]) (by kernel_rfl) (by simp) (AllReadyH.cons rfl (fun K hK => ?_) AllReadyH.nil)
          clear hHeld
          rw [if_pos (by kernel_rfl)]
          refine wp_append_any9 U2 (.tmp 12) (.tmp 14) 29 Try.underlying29 rfl (e0 + 3) (.slice (some ⟨nb, 0, none⟩) 0 0) 0 [] rfl ROW ao M.all.length cap M.all rfl hcap (KL.out U2 A2n.below) (by omega) A2n.z ?_
          intro va U3 ROWA G
          have A3n := A2n.grown G (ownS_behind ROW)
          have X := X.grown G (fun k hk => by cases hk; exact hxn)
          clear A2n G ROW
          refine hK.out _ _ A3n.s (fun hHeld => ?_)
          clear hK K
          (try simp only [Act.put, List.setIfInBounds_toArray, List.set_cons_zero, List.set_cons_succ])
          refine wpAnyH_ready (rs := [6]) (by kernel_rfl) (by simp) (AllReadyH.cons rfl (fun K hK => ?_) AllReadyH.nil)
          clear hHeld
          rw [if_pos (by kernel_rfl)]
          refine wp_append_any9 U3 (.tmp 15) (.tmp 17) 29 Try.underlying29 rfl (e0 + 3) va (0 + M.all.length) _ rfl ROWA (some ⟨xb, 0, none⟩) 1 1 [sNow M s] rfl (fun e => by cases e) (lst_oneS X) (by omega) A3n.z ?_
          intro vz U4 ROWZ G
          have A4n := A3n.grown G (ownS_behind ROWA)
          clear A3n G ROWA X
          refine hK.out _ _ A4n.s (fun hHeld => ?_)
          clear hK K
          (try simp only [Act.put, List.setIfInBounds_toArray, List.set_cons_zero, List.set_cons_succ])
          refine etake (i := 7) (v := .pointer (some ⟨e0, 4, none⟩)) 19 rfl (by kernel_rfl) (by kernel_rfl) (by kernel_rfl) (by kernel_rfl) (fun _ _ _ h => h) (.inl ⟨by kernel_rfl, fun w' hS => by (go_simp)⟩) hHeld ?_
          (try simp only [Act.put, List.setIfInBounds_toArray, List.set_cons_zero, List.set_cons_succ])
          refine wpAnyH_ready (rs := [8]) (by kernel_rfl) (by simp) (AllReadyH.cons rfl (fun K hK => ?_) AllReadyH.nil)
          clear hHeld
          rw [if_pos (by kernel_rfl)]
          have c4 := A4n.e.own.at_ 4 _ rfl
          have f4 := A4n.e.own.free 4
          have s9 : SdB (U4.setCell ⟨e0, 4, none⟩ vz) (e0 + 1) (sNow M s) := A4n.s.own.set_other _ _ _ (by omega)
          have FIN := radd_final A4n HE0.out.symm HXX.out HOA.out hfew vz ROWZ
          obtain ⟨ao', n', cap', rfl, E9, R9, HP9⟩ := FIN
          have HP9 := Lib.hid HP9
          go_simp
          refine hK.out _ _ s9 (fun hHeld => ?_)
          clear hK K hHeld s9 c4 f4 A4n ROWZ
          (try simp only [Act.put, List.setIfInBounds_toArray, List.set_cons_zero, List.set_cons_succ])
          refine wpAnyH_done (by kernel_rfl) ?_ _
          generalize (U4.setCell ⟨e0, 4, none⟩ (.slice ao' n' cap')) = W9 at *
          have v0 := E9.own.at_ 0 _ rfl
          have v1 := E9.own.at_ 1 _ rfl
          have v2 := E9.own.at_ 2 _ rfl
          have v3 := E9.own.at_ 3 _ rfl
          have v4 := E9.own.at_ 4 _ rfl
          clear E9
          go_wp2_with (refine store_rf rfl (.tmp 4) (.tmp 20) rfl (e0 + 2) M.me M.n M.timeout M.now ao' n' cap' rfl rfl R9 ?_)
          (try simp only [Exit.inBlock, Exit.then])
          exact bodyPost_ret (results_rf rfl _ _ (e0 + 2) rfl (R9.put _ _ _ _ _)) rfl HP9.out
      · clear hHeld
        rw [if_pos (by kernel_rfl)]
        go_simp
        have A1n := A6.later ((Grw.refl W6).alloc (.cells #[.int .i64 s.p, .int .i64 M.now, .bool s.beat, .bool s.gone, .int .u64 (s.b.ce : Int), .int .i64 s.b.cr, .int .u64 (s.b.pe : Int), .int .i64 s.b.pr, .int .u64 (s.b.ep : Int)] 39)).below
        have X : SdB (W6.alloc (.cells #[.int .i64 s.p, .int .i64 M.now, .bool s.beat, .bool s.gone, .int .u64 (s.b.ce : Int), .int .i64 s.b.cr, .int .u64 (s.b.pe : Int), .int .i64 s.b.pr, .int .u64 (s.b.ep : Int)] 39)) W6.heap.size (sNow M s) := SdB.new W6 (sNow M s)
        clear A6
        have hxl : W6.heap.size < (W6.alloc (.cells #[.int .i64 s.p, .int .i64 M.now, .bool s.beat, .bool s.gone, .int .u64 (s.b.ce : Int), .int .i64 s.b.cr, .int .u64 (s.b.pe : Int), .int .i64 s.b.pr, .int .u64 (s.b.ep : Int)] 39)).heap.size := by simp
        generalize (W6.alloc (.cells #[.int .i64 s.p, .int .i64 M.now, .bool s.beat, .bool s.gone, .int .u64 (s.b.ce : Int), .int .i64 s.b.cr, .int .u64 (s.b.pe : Int), .int .i64 s.b.pr, .int .u64 (s.b.ep : Int)] 39)) = U1 at *
        generalize W6.heap.size = xb at *
        refine hK.out _ _ A1n.s (fun hHeld => ?_)
        clear hK K
        (try simp only [Act.put, List.setIfInBounds_toArray, List.set_cons_zero, List.set_cons_succ])
        refine wpAnyH_ready (rs := [0]) (by kernel_rfl) (by simp) (AllReadyH.cons rfl (fun K hK => ?_) AllReadyH.nil)
        clear hHeld
        rw [if_pos (by kernel_rfl)]
        go_simp
        have A2n := A1n.later ((Grw.refl U1).alloc (.cells #[] 39)).below
        have ROW := own_base (World.ownsRow_made (e := 39) (size := 9) U1 #[] 0 (Nat.le_refl _) (Nat.zero_le _) (by simp)) A1n.z
        have X := X.below ((Grw.refl U1).alloc (.cells #[] 39)).below
        have hxn : xb ≠ U1.heap.size := by omega
        clear A1n
        generalize (U1.alloc (.cells #[] 39)) = U2 at *
        generalize U1.heap.size = nb at *
        refine hK.out _ _ A2n.s (fun hHeld => ?_)
        clear hK K
        (try simp only [Act.put, List.setIfInBounds_toArray, List.set_cons_zero, List.set_cons_succ])
        refine wpAnyH_ready (rs := [3]) (by kernel_rfl) (by simp) (AllReadyH.cons rfl (fun K hK => ?_) AllReadyH.nil)
        clear hHeld
        rw [if_pos (by kernel_rfl)]
        refine wp_append_any9 U2 (.tmp 12) (.tmp 14) 29 Try.underlying29 rfl (e0 + 3) (.slice (some ⟨nb, 0, none⟩) 0 0) 0 [] rfl ROW ao M.all.length cap M.all rfl hcap (KL.out U2 A2n.below) (by omega) A2n.z ?_
        intro va U3 ROWA G
        have A3n := A2n.grown G (ownS_behind ROW)
        have X := X.grown G (fun k hk => by cases hk; exact hxn)
        clear A2n G ROW
        refine hK.out _ _ A3n.s (fun hHeld => ?_)
        clear hK K
        (try simp only [Act.put, List.setIfInBounds_toArray, List.set_cons_zero, List.set_cons_succ])
        refine wpAnyH_ready (rs := [6]) (by kernel_rfl) (by simp) (AllReadyH.cons rfl (fun K hK => ?_) AllReadyH.nil)
        clear hHeld
        rw [if_pos (by kernel_rfl)]
        refine wp_append_any9 U3 (.tmp 15) (.tmp 17) 29 Try.underlying29 rfl (e0 + 3) va (0 + M.all.length) _ rfl ROWA (some ⟨xb, 0, none⟩) 1 1 [sNow M s] rfl (fun e => by cases e) (lst_oneS X) (by omega) A3n.z ?_
        intro vz U4 ROWZ G
        have A4n := A3n.grown G (ownS_behind ROWA)
        clear A3n G ROWA X
        refine hK.out _ _ A4n.s (fun hHeld => ?_)
        clear hK K
        (try simp only [Act.put, List.setIfInBounds_toArray, List.set_cons_zero, List.set_cons_succ])
        refine etake (i := 7) (v := .pointer (some ⟨e0, 4, none⟩)) 19 rfl (by kernel_rfl) (by kernel_rfl) (by kernel_rfl) (by kernel_rfl) (fun _ _ _ h => h) (.inl ⟨by kernel_rfl, fun w' hS => by (go_simp)⟩) hHeld ?_
        (try simp only [Act.put, List.setIfInBounds_toArray, List.set_cons_zero, List.set_cons_succ])
        refine wpAnyH_ready (rs := [8]) (by kernel_rfl) (by simp) (AllReadyH.cons rfl (fun K hK => ?_) AllReadyH.nil)
        clear hHeld
        rw [if_pos (by kernel_rfl)]
        have c4 := A4n.e.own.at_ 4 _ rfl
        have f4 := A4n.e.own.free 4
        have s9 : SdB (U4.setCell ⟨e0, 4, none⟩ vz) (e0 + 1) (sNow M s) := A4n.s.own.set_other _ _ _ (by omega)
        have FIN := radd_final A4n HE0.out.symm HXX.out HOA.out hfew vz ROWZ
        obtain ⟨ao', n', cap', rfl, E9, R9, HP9⟩ := FIN
        have HP9 := Lib.hid HP9
        go_simp
        refine hK.out _ _ s9 (fun hHeld => ?_)
        clear hK K hHeld s9 c4 f4 A4n ROWZ
        (try simp only [Act.put, List.setIfInBounds_toArray, List.set_cons_zero, List.set_cons_succ])
        refine wpAnyH_done (by kernel_rfl) ?_ _
        generalize (U4.setCell ⟨e0, 4, none⟩ (.slice ao' n' cap')) = W9 at *
        have v0 := E9.own.at_ 0 _ rfl
        have v1 := E9.own.at_ 1 _ rfl
        have v2 := E9.own.at_ 2 _ rfl
        have v3 := E9.own.at_ 3 _ rfl
        have v4 := E9.own.at_ 4 _ rfl
        clear E9
        go_wp2_with (refine store_rf rfl (.tmp 4) (.tmp 20) rfl (e0 + 2) M.me M.n M.timeout M.now ao' n' cap' rfl rfl R9 ?_)
        (try simp only [Exit.inBlock, Exit.then])
        exact bodyPost_ret (results_rf rfl _ _ (e0 + 2) rfl (R9.put _ _ _ _ _)) rfl HP9.out
    · clear hHeld
      rw [if_pos (by kernel_rfl)]
      go_simp
      have A0n := A6.later ((Grw.refl W6).alloc (.cells #[.int .i64 s.p, .int .i64 M.now, .bool s.beat, .bool s.gone, .int .u64 (s.b.ce : Int), .int .i64 s.b.cr, .int .u64 (s.b.pe : Int), .int .i64 s.b.pr, .int .u64 (s.b.ep : Int)] 39)).below
      have X : SdB (W6.alloc (.cells #[.int .i64 s.p, .int .i64 M.now, .bool s.beat, .bool s.gone, .int .u64 (s.b.ce : Int), .int .i64 s.b.cr, .int .u64 (s.b.pe : Int), .int .i64 s.b.pr, .int .u64 (s.b.ep : Int)] 39)) W6.heap.size (sNow M s) := SdB.new W6 (sNow M s)
      clear A6
      have hxl : W6.heap.size < (W6.alloc (.cells #[.int .i64 s.p, .int .i64 M.now, .bool s.beat, .bool s.gone, .int .u64 (s.b.ce : Int), .int .i64 s.b.cr, .int .u64 (s.b.pe : Int), .int .i64 s.b.pr, .int .u64 (s.b.ep : Int)] 39)).heap.size := by simp
      generalize (W6.alloc (.cells #[.int .i64 s.p, .int .i64 M.now, .bool s.beat, .bool s.gone, .int .u64 (s.b.ce : Int), .int .i64 s.b.cr, .int .u64 (s.b.pe : Int), .int .i64 s.b.pr, .int .u64 (s.b.ep : Int)] 39)) = U0 at *
      generalize W6.heap.size = xb at *
      refine hK.out _ _ A0n.s (fun hHeld => ?_)
      clear hK K
      (try simp only [Act.put, List.setIfInBounds_toArray, List.set_cons_zero, List.set_cons_succ])
      refine wpAnyH_ready (rs := [0, 2]) (by kernel_rfl) (by simp) (AllReadyH.cons rfl (fun K hK => ?_) (AllReadyH.cons rfl (fun K hK => ?_) AllReadyH.nil))
      · clear hHeld
        rw [if_pos (by kernel_rfl)]
        go_simp
        have A1n := A0n.later ((Grw.refl U0).alloc (.cells #[] 39)).below
        have ROW := own_base (World.ownsRow_made (e := 39) (size := 9) U0 #[] 0 (Nat.le_refl _) (Nat.zero_le _) (by simp)) A0n.z
        have X := X.below ((Grw.refl U0).alloc (.cells #[] 39)).below
        have hxn : xb ≠ U0.heap.size := by omega
        clear A0n
        generalize (U0.alloc (.cells #[] 39)) = U1 at *
        generalize U0.heap.size = nb at *
        refine hK.out _ _ A1n.s (fun hHeld => ?_)
        clear hK K
        (try simp only [Act.put, List.setIfInBounds_toArray, List.set_cons_zero, List.set_cons_succ])
        refine wpAnyH_ready (rs := [2]) (by kernel_rfl) (by simp) (AllReadyH.cons rfl (fun K hK => ?_) AllReadyH.nil)
        clear hHeld
        rw [if_pos (by kernel_rfl)]
        have c4 := A1n.e.own.at_ 4 _ rfl
        go_simp
        clear c4
        refine hK.out _ _ A1n.s (fun hHeld => ?_)
        clear hK K
        (try simp only [Act.put, List.setIfInBounds_toArray, List.set_cons_zero, List.set_cons_succ])
        refine wpAnyH_ready (rs := [3]) (by kernel_rfl) (by simp) (AllReadyH.cons rfl (fun K hK => ?_) AllReadyH.nil)
        clear hHeld
        rw [if_pos (by kernel_rfl)]
        refine wp_append_any9 U1 (.tmp 12) (.tmp 14) 29 Try.underlying29 rfl (e0 + 3) (.slice (some ⟨nb, 0, none⟩) 0 0) 0 [] rfl ROW ao M.all.length cap M.all rfl hcap (KL.out U1 A1n.below) (by omega) A1n.z ?_
        intro va U3 ROWA G
        have A3n := A1n.grown G (ownS_behind ROW)
        have X := X.grown G (fun k hk => by cases hk; exact hxn)
        clear A1n G ROW
        refine hK.out _ _ A3n.s (fun hHeld => ?_)
        clear hK K
        (try simp only [Act.put, List.setIfInBounds_toArray, List.set_cons_zero, List.set_cons_succ])
        refine wpAnyH_ready (rs := [6]) (by kernel_rfl) (by simp) (AllReadyH.cons rfl (fun K hK => ?_) AllReadyH.nil)
        clear hHeld
        rw [if_pos (by kernel_rfl)]
        refine wp_append_any9 U3 (.tmp 15) (.tmp 17) 29 Try.underlying29 rfl (e0 + 3) va (0 + M.all.length) _ rfl ROWA (some ⟨xb, 0, none⟩) 1 1 [sNow M s] rfl (fun e => by cases e) (lst_oneS X) (by omega) A3n.z ?_
        intro vz U4 ROWZ G
        have A4n := A3n.grown G (ownS_behind ROWA)
        clear A3n G ROWA X
        refine hK.out _ _ A4n.s (fun hHeld => ?_)
        clear hK K
        (try simp only [Act.put, List.setIfInBounds_toArray, List.set_cons_zero, List.set_cons_succ])
        refine etake (i := 7) (v := .pointer (some ⟨e0, 4, none⟩)) 19 rfl (by kernel_rfl) (by kernel_rfl) (by kernel_rfl) (by kernel_rfl) (fun _ _ _ h => h) (.inl ⟨by kernel_rfl, fun w' hS => by (go_simp)⟩) hHeld ?_
        (try simp only [Act.put, List.setIfInBounds_toArray, List.set_cons_zero, List.set_cons_succ])
        refine wpAnyH_ready (rs := [8]) (by kernel_rfl) (by simp) (AllReadyH.cons rfl (fun K hK => ?_) AllReadyH.nil)
        clear hHeld
        rw [if_pos (by kernel_rfl)]
        have c4 := A4n.e.own.at_ 4 _ rfl
        have f4 := A4n.e.own.free 4
        have s9 : SdB (U4.setCell ⟨e0, 4, none⟩ vz) (e0 + 1) (sNow M s) := A4n.s.own.set_other _ _ _ (by omega)
        have FIN := radd_final A4n HE0.out.symm HXX.out HOA.out hfew vz ROWZ
        obtain ⟨ao', n', cap', rfl, E9, R9, HP9⟩ := FIN
        have HP9 := Lib.hid HP9
        go_simp
        refine hK.out _ _ s9 (fun hHeld => ?_)
        clear hK K hHeld s9 c4 f4 A4n ROWZ
        (try simp only [Act.put, List.setIfInBounds_toArray, List.set_cons_zero, List.set_cons_succ])
        refine wpAnyH_done (by kernel_rfl) ?_ _
        generalize (U4.setCell ⟨e0, 4, none⟩ (.slice ao' n' cap')) = W9 at *
        have v0 := E9.own.at_ 0 _ rfl
        have v1 := E9.own.at_ 1 _ rfl
        have v2 := E9.own.at_ 2 _ rfl
        have v3 := E9.own.at_ 3 _ rfl
        have v4 := E9.own.at_ 4 _ rfl
        clear E9
        go_wp2_with (refine store_rf rfl (.tmp 4) (.tmp 20) rfl (e0 + 2) M.me M.n M.timeout M.now ao' n' cap' rfl rfl R9 ?_)
        (try simp only [Exit.inBlock, Exit.then])
        exact bodyPost_ret (results_rf rfl _ _ (e0 + 2) rfl (R9.put _ _ _ _ _)) rfl HP9.out
      · clear hHeld
        rw [if_pos (by kernel_rfl)]
        have c4 := A0n.e.own.at_ 4 _ rfl
        go_simp
        clear c4
        refine hK.out _ _ A0n.s (fun hHeld => ?_)
        clear hK K
        (try simp only [Act.put, List.setIfInBounds_toArray, List.set_cons_zero, List.set_cons_succ])
        refine wpAnyH_ready (rs := [0]) (by kernel_rfl) (by simp) (AllReadyH.cons rfl (fun K hK => ?_) AllReadyH.nil)
        clear hHeld
        rw [if_pos (by kernel_rfl)]
        go_simp
        have A2n := A0n.later ((Grw.refl U0).alloc (.cells #[] 39)).below
        have ROW := own_base (World.ownsRow_made (e := 39) (size := 9) U0 #[] 0 (Nat.le_refl _) (Nat.zero_le _) (by simp)) A0n.z
        have X := X.below ((Grw.refl U0).alloc (.cells #[] 39)).below
        have hxn : xb ≠ U0.heap.size := by omega
        clear A0n
        generalize (U0.alloc (.cells #[] 39)) = U2 at *
        generalize U0.heap.size = nb at *
        refine hK.out _ _ A2n.s (fun hHeld => ?_)
        clear hK K
        (try simp only [Act.put, List.setIfInBounds_toArray, List.set_cons_zero, List.set_cons_succ])
        refine wpAnyH_ready (rs := [3]) (by kernel_rfl) (by simp) (AllReadyH.cons rfl (fun K hK => ?_) AllReadyH.nil)
        clear hHeld
        rw [if_pos (by kernel_rfl)]
        refine wp_append_any9 U2 (.tmp 12) (.tmp 14) 29 Try.underlying29 rfl (e0 + 3) (.slice (some ⟨nb, 0, none⟩) 0 0) 0 [] rfl ROW ao M.all.length cap M.all rfl hcap (KL.out U2 A2n.below) (by omega) A2n.z ?_
        intro va U3 ROWA G
        have A3n := A2n.grown G (ownS_behind ROW)
        have X := X.grown G (fun k hk => by cases hk; exact hxn)
        clear A2n G ROW
        refine hK.out _ _ A3n.s (fun hHeld => ?_)
        clear hK K
        (try simp only [Act.put, List.setIfInBounds_toArray, List.set_cons_zero, List.set_cons_succ])
        refine wpAnyH_ready (rs := [6]) (by kernel_rfl) (by simp) (AllReadyH.cons rfl (fun K hK => ?_) AllReadyH.nil)
        clear hHeld
        rw [if_pos (by kernel_rfl)]
        refine wp_append_any9 U3 (.tmp 15) (.tmp 17) 29 Try.underlying29 rfl (e0 + 3) va (0 + M.all.length) _ rfl ROWA (some ⟨xb, 0, none⟩) 1 1 [sNow M s] rfl (fun e => by cases e) (lst_oneS X) (by omega) A3n.z ?_
        intro vz U4 ROWZ G
        have A4n := A3n.grown G (ownS_behind ROWA)
        clear A3n G ROWA X
        refine hK.out _ _ A4n.s (fun hHeld => ?_)
        clear hK K
        (try simp only [Act.put, List.setIfInBounds_toArray, List.set_cons_zero, List.set_cons_succ])
        refine etake (i := 7) (v := .pointer (some ⟨e0, 4, none⟩)) 19 rfl (by kernel_rfl) (by kernel_rfl) (by kernel_rfl) (by kernel_rfl) (fun _ _ _ h => h) (.inl ⟨by kernel_rfl, fun w' hS => by (go_simp)⟩) hHeld ?_
        (try simp only [Act.put, List.setIfInBounds_toArray, List.set_cons_zero, List.set_cons_succ])
        refine wpAnyH_ready (rs := [8]) (by kernel_rfl) (by simp) (AllReadyH.cons rfl (fun K hK => ?_) AllReadyH.nil)
        clear hHeld
        rw [if_pos (by kernel_rfl)]
        have c4 := A4n.e.own.at_ 4 _ rfl
        have f4 := A4n.e.own.free 4
        have s9 : SdB (U4.setCell ⟨e0, 4, none⟩ vz) (e0 + 1) (sNow M s) := A4n.s.own.set_other _ _ _ (by omega)
        have FIN := radd_final A4n HE0.out.symm HXX.out HOA.out hfew vz ROWZ
        obtain ⟨ao', n', cap', rfl, E9, R9, HP9⟩ := FIN
        have HP9 := Lib.hid HP9
        go_simp
        refine hK.out _ _ s9 (fun hHeld => ?_)
        clear hK K hHeld s9 c4 f4 A4n ROWZ
        (try simp only [Act.put, List.setIfInBounds_toArray, List.set_cons_zero, List.set_cons_succ])
        refine wpAnyH_done (by kernel_rfl) ?_ _
        generalize (U4.setCell ⟨e0, 4, none⟩ (.slice ao' n' cap')) = W9 at *
        have v0 := E9.own.at_ 0 _ rfl
        have v1 := E9.own.at_ 1 _ rfl
        have v2 := E9.own.at_ 2 _ rfl
        have v3 := E9.own.at_ 3 _ rfl
        have v4 := E9.own.at_ 4 _ rfl
        clear E9
        go_wp2_with (refine store_rf rfl (.tmp 4) (.tmp 20) rfl (e0 + 2) M.me M.n M.timeout M.now ao' n' cap' rfl rfl R9 ?_)
        (try simp only [Exit.inBlock, Exit.then])
        exact bodyPost_ret (results_rf rfl _ _ (e0 + 2) rfl (R9.put _ _ _ _ _)) rfl HP9.out
end Go.Proofs.Ytcjbjcojmjfmaaa
