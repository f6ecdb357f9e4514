/- The document's stream: rows of messages, their slices; its block; New, Lacks, find. -/
import Derived.Test.YtcnfkjjfegjecaaSLoop
import Derived.Deep.RegionHeld3
set_option linter.unusedVariables false
set_option linter.unusedSimpArgs false
namespace Go.Proofs.Ytcnfkjjfegjecaa
open Go.RowKit Go.Sort Go.Maps

/-- A slice of messages like those of l. -/
def LikeAt (w : World) (F : Nat → Prop) (ao : Option Addr) (l : List Mg) : Prop := ∃ L, Lst encG 6 w ao l.length L ∧ L.length = l.length ∧ ∀ (i : Nat) (x m : Mg), L[i]? = some x → l[i]? = some m → Like x m ∧ DpOff w F x
theorem LikeAt.below {w w' : World} {F : Nat → Prop} {ao : Option Addr} {l : List Mg} (h : LikeAt w F ao l) (hb : Below w.heap.size w w') : LikeAt w' F ao l := by
  obtain ⟨L, h1, h2, h3⟩ := h
  exact ⟨L, h1.below hb, h2, fun i x m hx hm => ⟨(h3 i x m hx hm).1, (h3 i x m hx hm).2.kept fun k hk _ => hb.block k hk⟩⟩
theorem OutAt.like {w : World} {F : Nat → Prop} {base : Nat} {ao : Option Addr} {cap : Nat} {l : List Mg} (h : OutAt w F base ao cap l) : LikeAt w F ao l := h.lst
theorem LikeAt.src {w : World} {F : Nat → Prop} {ao : Option Addr} {l : List Mg} (h : LikeAt w F ao l) : 0 < l.length → ∃ b o, ao = some ⟨b, o, none⟩ := by
  obtain ⟨L, h1, _⟩ := h
  intro h0
  obtain ⟨b, o, e, _⟩ := h1.src h0
  exact ⟨b, o, e⟩
theorem LikeAt.elem {w : World} {F : Nat → Prop} {ao : Option Addr} {l : List Mg} (h : LikeAt w F ao l) {i : Nat} {m : Mg} (hm : l[i]? = some m) :
    ∃ k o x, ao = some ⟨k, o, none⟩ ∧ k < w.heap.size ∧ Like x m ∧ DpOff w F x ∧ (∀ c v, (encG x)[c]? = some v → w.cell? ⟨k, o + i * 6 + c, none⟩ = some v) := by
  obtain ⟨L, hL, hl, hE⟩ := h
  have hi := (List.getElem?_eq_some_iff.1 hm).1
  obtain ⟨b, o, x, e, hx, hb, hc⟩ := hL.atG hi
  exact ⟨b, o, x, e, hb, (hE i x m hx hm).1, (hE i x m hx hm).2, hc⟩
theorem LikeAt.take {w : World} {F : Nat → Prop} {ad : Addr} {l : List Mg} (h : LikeAt w F (some ad) l) {j : Nat} (hj : j ≤ l.length) : LikeAt w F (some ad) (l.take j) := by
  obtain ⟨L, hL, hl, hE⟩ := h
  refine ⟨L.take j, ⟨by rw [List.length_take, List.length_take, hl], fun h0 => ?_⟩, by rw [List.length_take, List.length_take, hl], fun i x m hx hm => ?_⟩
  · obtain ⟨b, o, e, R⟩ := hL.src (by rw [List.length_take] at h0; omega)
    exact ⟨b, o, e, fun i x hx c v hv => R i x (by rw [List.getElem?_take] at hx; split at hx; exact hx; cases hx) c v hv⟩
  · rw [List.getElem?_take] at hx hm
    split at hx
    · rename_i hij
      rw [if_pos hij] at hm
      exact hE i x m hx hm
    · cases hx
theorem LikeAt.drop {w : World} {F : Nat → Prop} {ad : Addr} {l : List Mg} {cap : Nat} (h : LikeAt w F (some ad) l) (hc : l.length ≤ cap) {d : Nat} (hd : d ≤ l.length) : LikeAt w F (some (if cap = d then ad else ad.add (d * 6))) (l.drop d) := by
  obtain ⟨L, hL, hl, hE⟩ := h
  refine ⟨L.drop d, ⟨by rw [List.length_drop, List.length_drop, hl], fun h0 => ?_⟩, by rw [List.length_drop, List.length_drop, hl], fun i x m hx hm => ?_⟩
  · rw [List.length_drop] at h0
    obtain ⟨b, o, e, R⟩ := hL.src (by omega)
    injection e with e
    subst e
    rw [if_neg (by omega), add_lit10]
    refine ⟨b, o + d * 6, rfl, fun i x hx c v hv => ?_⟩
    have := R (d + i) x (by rw [List.getElem?_drop] at hx; exact hx) c v hv
    rw [show o + d * 6 + i * 6 + c = o + (d + i) * 6 + c by omega]
    exact this
  · rw [List.getElem?_drop] at hx hm
    exact hE _ x m hx hm
/-- 'append' of a slice onto a row of the call's own. -/
theorem wp_append_like (w : World) {o : Oper} {a : Act} {K : Act → World → Prop} {Q : Exit → Act → World → Prop} (s x : Operand)
    (ho : o.op = .call { callee := .builtin .append, args := #[s, x], argTypes := #[22, 22] })
    (F : Nat → Prop) (base : Nat) (ao : Option Addr) (cap : Nat) (A : List Mg) (hs : a.eval s = .slice ao A.length cap) (hA : OutAt w F base ao cap A)
    (ao2 : Option Addr) (cap2 : Nat) (out : List Mg) (hx : a.eval x = .slice ao2 out.length cap2) (hnil : ao2 = none → cap2 = 0) (hO : LikeAt w F ao2 out)
    (hF : ∀ x, ao = some x → F x.block) (hn : A.length + out.length ≤ 200000) (hbase : base ≤ w.heap.size)
    (h : ∀ ao' cap' w', OutAt w' (addB F ao') base ao' cap' (A ++ out) → w.grownBy w' (Value.slice ao A.length cap).ownBlock → (∀ x, ao' = some x → ao = some x ∨ x.block = w.heap.size) →
      K (a.put o.dst (.slice ao' (A ++ out).length cap')) w') : o.wp Try.prog a w K Q := by
  obtain ⟨i0, hi, hz0, hz1, hz2⟩ := info_parts infoMg
  have ht := Try.underlying22
  obtain ⟨LA, hOA, hlA, hEA⟩ := hA
  obtain ⟨LO, hLO, hlO, hEO⟩ := hO
  cases ao2 with
  | none =>
    have hm : out.length = 0 := by
      rcases Nat.eq_zero_or_pos out.length with e | e
      · exact e
      · obtain ⟨b, o', e', _⟩ := hLO.src e; cases e'
    obtain rfl : out = [] := List.eq_nil_of_length_eq_zero hm
    have hc := hnil rfl
    subst hc
    have hrun := run_append_owned_none (P := Try.prog) (w := w) base 22 o.type 37 i0 6 ht hi _ A.length _ hOA
    have h2 := h ao cap w ⟨LA, by simpa using hOA, by simpa using hlA, fun i x m hx hm => ⟨(hEA i x m hx (by simpa using hm)).1, (hEA i x m hx (by simpa using hm)).2.more fun k hk => by
      rcases hk with hk | ⟨y, e, rfl⟩
      · exact .inl hk
      · exact .inl (hF y e)⟩⟩ (World.grownBy.refl w _) (fun x e => .inl e)
    simp only [List.append_nil] at h2
    simp only [List.length_nil] at hx
    unfold Oper.wp
    simp [execOp, ho, resolve, invoke, builtin, hs, hx, hrun, Result.andThen]
    exact h2
  | some ad =>
    obtain ⟨v', w', hr, h1, h2, h3, h4⟩ := run_append_own_at (P := Try.prog) w base 22 o.type 37 i0 zeroMg 6 72 ht hi hz0 hz1 hz2 rfl (by decide) _ A.length _ hOA ad out.length cap2 (flat encG LO) (by rw [flat_length encG 6 encG_length, hlO]) (fun j u hu => by
      have hj : j < out.length * 6 := by have := (List.getElem?_eq_some_iff.1 hu).1; rw [flat_length encG 6 encG_length, hlO] at this; exact this
      obtain ⟨b, o', e', R⟩ := hLO.src (by omega)
      cases e'
      rw [add_lit10]
      exact R.flat encG_length j u hu) flatG_one (by unfold maxLen; omega) (by omega) hbase
    have hlen : A.length + out.length = (A ++ out).length := by simp
    rw [hlen] at h1
    obtain ⟨ao', cap', rfl⟩ := own_form' h1
    have hrow : ∀ k, k < w.heap.size → ¬ F k → w'.heap[k]? = w.heap[k]? := fun k hk hn => h2.block k hk (fun e => by
      cases ao with
      | none => simp [Value.ownBlock] at e
      | some y => simp [Value.ownBlock] at e; exact hn (e ▸ hF y rfl))
    have hloc : ∀ x, ao' = some x → ao = some x ∨ x.block = w.heap.size := by
      intro x e
      subst e
      rcases h4 with h4 | h4
      · left
        cases ao with
        | none => simp [Value.ownBlock] at h4
        | some y =>
          simp [Value.ownBlock] at h4
          rcases own_cases h1 with ⟨e1, _⟩ | ⟨g1, c1, e1, _⟩
          · cases e1
          · rcases own_cases hOA with ⟨e2, _⟩ | ⟨g2, c2, e2, _⟩
            · cases e2
            · injection e1 with e1; injection e1 with e1
              injection e2 with e2; injection e2 with e2
              subst e1 e2
              simp only at h4
              rw [h4]
      · right
        simp [Value.ownBlock] at h4
        exact h4
    unfold Oper.wp execOp
    simp only [ho, resolve, invoke, builtin, Sem.run_bind, Sem.run_pure, Result.andThen_ok, List.map_toArray, List.map_cons, List.map_nil, hs, hx, hr]
    refine h ao' cap' w' ⟨LA ++ LO, ?_, by simp [hlA, hlO], fun i x m hx hm => ?_⟩ h2 hloc
    · rw [flat_append]; exact h1
    · have hk : ∀ z, DpOff w F z → DpOff w' (addB F ao') z := fun z hz => by
        have := hz.more (F' := addB F ao') fun k hk => by
          rcases hk with hk | ⟨y, e, rfl⟩
          · exact .inl hk
          · rcases hloc y e with e2 | e2
            · exact .inl (hF y e2)
            · exact .inr (by omega)
        exact this.kept fun k hk hn => hrow k hk (fun e => hn (.inl e))
      by_cases hi' : i < A.length
      · rw [List.getElem?_append_left (by omega)] at hx hm
        exact ⟨(hEA i x m hx hm).1, hk x (hEA i x m hx hm).2⟩
      · rw [List.getElem?_append_right (by omega)] at hx hm
        rw [hlA] at hx
        exact ⟨(hEO _ x m hx hm).1, hk x (hEO _ x m hx hm).2⟩
theorem append_like (w : World) {ops : Array Oper} {rest : List Oper} {o : Oper} {a : Act} {Q : Exit → Act → World → Prop} (hgd : o.guard = none) (s x : Operand)
    (ho : o.op = .call { callee := .builtin .append, args := #[s, x], argTypes := #[22, 22] })
    (F : Nat → Prop) (base : Nat) (ao : Option Addr) (cap : Nat) (A : List Mg) (hs : a.eval s = .slice ao A.length cap) (hA : OutAt w F base ao cap A)
    (ao2 : Option Addr) (cap2 : Nat) (out : List Mg) (hx : a.eval x = .slice ao2 out.length cap2) (hnil : ao2 = none → cap2 = 0) (hO : LikeAt w F ao2 out)
    (hF : ∀ x, ao = some x → F x.block) (hn : A.length + out.length ≤ 200000) (hbase : base ≤ w.heap.size)
    (h : ∀ ao' cap' w', OutAt w' (addB F ao') base ao' cap' (A ++ out) → w.grownBy w' (Value.slice ao A.length cap).ownBlock → (∀ x, ao' = some x → ao = some x ∨ x.block = w.heap.size) →
      wpList Try.prog ops Q rest (a.put o.dst (.slice ao' (A ++ out).length cap')) w') : wpList Try.prog ops Q (o :: rest) a w :=
  wpList_plain hgd fun K' hK' => wp_append_like w s x ho F base ao cap A hs hA ao2 cap2 out hx hnil hO hF hn hbase fun ao' cap' w' h1 h2 h3 => hK' _ _ (h ao' cap' w' h1 h2 h3)
theorem msg_elem : Try.prog.underlying 22 = some (.slice (Try.prog.elem 22)) := by kernel_rfl
theorem msg_sizeOf (w : World) : (sizeOf (Try.prog.elem 22)).run Try.prog w = .ok 6 w := by kernel_rfl
theorem yields_ms_h {ops : Array Oper} {S : World → Prop} {op : Oper} {a : Act} (hw : Region.wanted op (yielded ops a.tmps) = true) (x y : Operand) (ho : op.op = .slice 22 x none (some y) none)
    (ad : Addr) (n c j : Nat) (hx : a.eval x = .slice (some ad) n c) (hy : a.eval y = .int .i64 (j : Int)) (hj : j ≤ c) (hc : 0 < c) : YieldsIf Try.prog ops S op (.slice (some ad) j c) a :=
  .inl ⟨hw, fun w _ => by
    have h1 := run_slice_h (P := Try.prog) w 22 (some ad) n c msg_elem .i64 (j : Int) (by omega) (by omega)
    unfold execOp
    simp only [ho, hx, hy, Option.map, Sem.run_bind, run_sliceAt_slice _ _ _ _ _ _ msg_elem, h1, msg_sizeOf, Result.andThen_ok, sliced, Int.toNat_natCast, Nat.zero_mul, Nat.sub_zero]
    have h2 : ¬ c = 0 := by omega
    simp [h2, Addr.add]⟩
theorem yields_ms_l {ops : Array Oper} {S : World → Prop} {op : Oper} {a : Act} (hw : Region.wanted op (yielded ops a.tmps) = true) (x y : Operand) (ho : op.op = .slice 22 x (some y) none none)
    (ad : Addr) (n c j : Nat) (hx : a.eval x = .slice (some ad) n c) (hy : a.eval y = .int .i64 (j : Int)) (hj : j ≤ n) : YieldsIf Try.prog ops S op (.slice (some (if c = j then ad else ad.add (j * 6))) (n - j) (c - j)) a :=
  .inl ⟨hw, fun w _ => by
    have h1 := run_slice_l (P := Try.prog) w 22 (some ad) n c msg_elem .i64 (j : Int) (by omega) (by omega)
    unfold execOp
    simp only [ho, hx, hy, Option.map, Sem.run_bind, run_sliceAt_slice _ _ _ _ _ _ msg_elem, h1, msg_sizeOf, Result.andThen_ok, sliced, Int.toNat_natCast]
    split <;> simp⟩
/-- The document's stream in a block. -/
def RsB (w : World) (g : Nat) (sz : Int) (c : Nat) (v : Value) : Prop := Own w g 29 #[.int .i64 sz, .int .u32 (c : Int), v]
theorem RsB.own {w : World} {g : Nat} {sz : Int} {c : Nat} {v : Value} (h : RsB w g sz c v) : Own w g 29 #[.int .i64 sz, .int .u32 (c : Int), v] := h
theorem RsB.new (w : World) (sz : Int) (c : Nat) (v : Value) : RsB (w.alloc (.cells #[.int .i64 sz, .int .u32 (c : Int), v] 29)) w.heap.size sz c v := Own.new w _ _
theorem RsB.lt {w : World} {g : Nat} {sz : Int} {c : Nat} {v : Value} (h : RsB w g sz c v) : g < w.heap.size := h.own.lt
theorem RsB.below {w w' : World} {g : Nat} {sz : Int} {c : Nat} {v : Value} (h : RsB w g sz c v) (hb : Below w.heap.size w w') : RsB w' g sz c v := (hb.block g h.lt).trans h
theorem RsB.grown {w w' : World} {g : Nat} {sz : Int} {c : Nat} {v : Value} {o : Option Nat} (h : RsB w g sz c v) (hb : w.grownBy w' o) (ho : ∀ k, o = some k → g ≠ k) : RsB w' g sz c v := (hb.block g h.lt (fun e => ho g e.symm rfl)).trans h
theorem RsB.put {w : World} {g : Nat} {sz : Int} {c : Nat} {v : Value} (h : RsB w g sz c v) (sz' : Int) (c' : Nat) (v' : Value) : RsB (w.setRow g #[.int .i64 sz', .int .u32 (c' : Int), v']) g sz' c' v' := setRow_heap _ _ _ _ _ _ h
theorem rs_size : (Try.prog.info? 29).map (·.size) = some 3 := by kernel_rfl
theorem rs_one (sz c : Int) (x : Option Addr) (n m : Nat) : (#[.int .i64 sz, .int .u32 c, .slice x n m] : Array Value).all (·.oneCell') = true := by simp [Value.oneCell']
theorem store_rs {ops : Array Oper} {rest : List Oper} {o : Oper} {A : Act} {w : World} {Q : Exit → Act → World → Prop} (hgd : o.guard = none) (x y : Operand) (ho : o.op = .store 29 x y)
    (g : Nat) (sz : Int) (c : Nat) (u : Option Addr) (n m : Nat) (hx : A.eval x = .pointer (some ⟨g, 0, none⟩)) (hy : A.eval y = .agg #[.int .i64 sz, .int .u32 (c : Int), .slice u n m])
    {sz0 : Int} {c0 : Nat} {v0 : Value} (hg : RsB w g sz0 c0 v0) (h : wpList Try.prog ops Q rest (A.put o.dst undef) (w.setRow g #[.int .i64 sz, .int .u32 (c : Int), .slice u n m])) : wpList Try.prog ops Q (o :: rest) A w :=
  wpList_store_row hgd 29 x y ho g _ hx hy 29 _ hg rs_size rfl (rs_one sz c u n m) h
theorem load_rs {ops : Array Oper} {rest : List Oper} {o : Oper} {A : Act} {w : World} {Q : Exit → Act → World → Prop} (hgd : o.guard = none) (x : Operand) (ho : o.op = .load 29 x)
    (g : Nat) (hx : A.eval x = .pointer (some ⟨g, 0, none⟩)) {sz : Int} {c : Nat} {v : Value} (hg : RsB w g sz c v)
    (h : wpList Try.prog ops Q rest (A.put o.dst (.agg #[.int .i64 sz, .int .u32 (c : Int), v])) w) : wpList Try.prog ops Q (o :: rest) A w :=
  wpList_load_row hgd 29 x ho g hx 29 _ _ _ hg Try.underlying29 rfl rs_size h
theorem results_rs {fn : Func} {p : Tmp} (h : fn.results = #[.cell p 29]) (tmps : Array Value) (w : World) (g : Nat) {sz : Int} {c : Nat} {v : Value} (hp : tmps.getD p undef = .pointer (some ⟨g, 0, none⟩)) (hg : RsB w g sz c v) :
    (results fn tmps).run Try.prog w = .ok (.agg #[.int .i64 sz, .int .u32 (c : Int), v]) w :=
  results_cell_row h tmps w g 29 _ (0, 0) _ hp hg Try.underlying29 rfl rs_size
theorem results_rs3 {fn : Func} {p u u2 : Tmp} (h : fn.results = #[.cell p 29, .tmp u, .tmp u2]) (tmps : Array Value) (w : World) (g : Nat) {sz : Int} {c : Nat} {v : Value} (hp : tmps.getD p undef = .pointer (some ⟨g, 0, none⟩)) (hg : RsB w g sz c v) :
    (results fn tmps).run Try.prog w = .ok (.tuple #[.agg #[.int .i64 sz, .int .u32 (c : Int), v], tmps.getD u undef, tmps.getD u2 undef]) w := by
  have hl := run_loadVar_row (P := Try.prog) w g 29 29 #[.int .i64 sz, .int .u32 (c : Int), v] (0, 0) _ hg Try.underlying29 rfl rs_size
  have hp' : tmps[p]?.getD undef = .pointer (some ⟨g, 0, none⟩) := by simpa using hp
  simp only [results, h]
  simp [Sem.run_bind, Result.andThen, hp', asAddr, hl]
/-- The place of the one of a number. -/
def idxS (H : List Mg) (n : Nat) : Option Nat := H.findIdx? fun m => sqG m == n
def idxI (H : List Mg) (n : Nat) : Int := match idxS H n with | some i => i | none => -1
theorem idxS_none {H : List Mg} {n : Nat} : idxS H n = none ↔ getS sqG H n = none := by
  unfold idxS getS
  rw [List.findIdx?_eq_none_iff, List.find?_eq_none]
  simp
theorem idxS_some {H : List Mg} {n i : Nat} (h : idxS H n = some i) : ∃ m, H[i]? = some m ∧ sqG m = n ∧ getS sqG H n = some m ∧ dropS sqG H n = H.take i ++ H.drop (i + 1) := by
  unfold idxS at h
  rw [List.findIdx?_eq_some_iff_getElem] at h
  obtain ⟨hi, hp, hb⟩ := h
  refine ⟨H[i], List.getElem?_eq_getElem hi, by simpa using hp, ?_, ?_⟩
  · unfold getS
    rw [List.find?_eq_some_iff_getElem]
    exact ⟨hp, i, hi, rfl, fun j hj => by have := hb j hj; simpa using this⟩
  · unfold dropS
    rw [List.eraseP_eq_eraseIdx]
    have : H.findIdx? (fun m => sqG m == n) = some i := List.findIdx?_eq_some_iff_getElem.2 ⟨hi, hp, hb⟩
    rw [this]
    exact List.eraseIdx_eq_take_drop_succ ..
end Go.Proofs.Ytcnfkjjfegjecaa
