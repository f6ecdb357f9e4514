/- HoldPlays: both holds in memory; what a law's step leaves of them. -/
import Derived.Test.YtafenlacacghoaaHpMath
import Derived.Test.YtafenlacacghoaaHpSpoil
import Derived.Test.YtafenlacacghoaaHdDo
import Derived.Laws.OwnMore
set_option linter.unusedVariables false
set_option linter.unusedSimpArgs false
namespace Go.Proofs.Ytafenlacacghoaa
open Go.RowKit Go.Sort

/-- Both holds, made since W: the program's has the blocks of F, the document's lies in the block f. -/
structure PlayM (W wr : World) (F : Nat → Prop) (f g N : Nat) (S : Hs) (L : List Mg) (lo : Nat → Nat) (s : Sl) : Prop where
  h : HRep wr F g N S
  new : ∀ k, F k → W.heap.size ≤ k
  nf : ¬ F f
  nr : ∀ x, s.a = some x → ¬ F x.block
  rf : RhB wr f s lo
  fw : W.heap.size ≤ f
  row : SlotAt wr s L
  rw_ : ∀ x, s.a = some x → W.heap.size ≤ x.block
  bel : Below W.heap.size W wr
  few : L.length ≤ N
  deps : ∀ m ∈ L, DpIn W m ∧ m.dl ≤ 1048576
section
variable {W wr w' : World} {F : Nat → Prop} {f g N : Nat} {S : Hs} {L : List Mg} {lo : Nat → Nat} {s : Sl}
theorem PlayM.later (h : PlayM W wr F f g N S L lo s) (hb : Below wr.heap.size wr w') : PlayM W w' F f g N S L lo s :=
  ⟨h.h.below hb, h.new, h.nf, h.nr, h.rf.below hb, h.fw, h.row.below hb, h.rw_, h.bel.trans (hb.mono h.bel.size), h.few, h.deps⟩
theorem PlayM.le {M : Nat} (h : PlayM W wr F f g N S L lo s) (hm : N ≤ M) : PlayM W wr F f g M S L lo s :=
  ⟨h.h.le hm, h.new, h.nf, h.nr, h.rf, h.fw, h.row, h.rw_, h.bel, Nat.le_trans h.few hm, h.deps⟩
/-- Blocks of D have turned, and none of these are theirs. -/
theorem PlayM.chg {D : Nat → Prop} (h : PlayM W wr F f g N S L lo s) (hc : Chg D wr w') (hF : ∀ k, F k → ¬ D k) (hf : ¬ D f) (hr : ∀ x, s.a = some x → ¬ D x.block) (hD : ∀ k, D k → W.heap.size ≤ k) : PlayM W w' F f g N S L lo s :=
  ⟨h.h.chg hc hF, h.new, h.nf, h.nr, (hc.block f h.rf.lt hf).trans h.rf, h.fw, h.row.kept fun x hx => hc.block _ (h.row.lt x hx) (hr x hx), h.rw_, h.bel.trans (hc.below h.bel.size hD), h.few, h.deps⟩
/-- A call of the program's hold. -/
theorem PlayM.prog {F' : Nat → Prop} {M : Nat} {S' : Hs} (h : PlayM W wr F f g N S L lo s) (hm : N ≤ M) (hh : HRep w' F' g M S') (hF : ∀ k, F' k → F k ∨ wr.heap.size ≤ k) (hc : Chg F wr w') : PlayM W w' F' f g M S' L lo s := by
  have hsz := h.bel.size
  refine ⟨hh, fun k hk => ?_, fun hk => ?_, fun x hx hk => ?_, (hc.block f h.rf.lt h.nf).trans h.rf, h.fw, h.row.kept fun x hx => hc.block _ (h.row.lt x hx) (h.nr x hx), h.rw_, h.bel.trans (hc.below hsz h.new), Nat.le_trans h.few hm, h.deps⟩
  · rcases hF k hk with e | e
    · exact h.new k e
    · omega
  · rcases hF _ hk with e | e
    · exact h.nf e
    · have := h.rf.lt; omega
  · rcases hF _ hk with e | e
    · exact h.nr x hx e
    · have := h.row.lt x hx; omega
/-- The document's hold, put into its block anew. -/
theorem PlayM.doc {L' : List Mg} {lo' : Nat → Nat} {t : Sl} (h : PlayM W wr F f g N S L lo s) (hb : Below wr.heap.size wr w') (ht : SlotAt w' t L') (hts : t = s ∨ ∀ x, t.a = some x → wr.heap.size ≤ x.block) (hl : L'.length ≤ N) (hd : ∀ m ∈ L', DpIn W m ∧ m.dl ≤ 1048576) :
    PlayM W (w'.setRow f (rhC t lo').toArray) F f g N S L' lo' t := by
  have h1 := h.later hb
  have hsz := h.bel.size
  have hset : ∀ j, j ≠ f → (w'.setRow f (rhC t lo').toArray).heap[j]? = w'.heap[j]? := fun j hj => setRow_other _ _ _ _ hj
  have htf : ∀ x, t.a = some x → x.block ≠ f := fun x hx => by
    obtain ⟨c, hc⟩ := ht.typ x hx
    exact typ_ne hc h1.rf (by decide)
  refine ⟨h1.h.kept (by rw [size_setRow]; exact Nat.le_refl _) fun k hk => hset k (fun e => h.nf (e ▸ hk)), h.new, h.nf, fun x hx => ?_, h1.rf.row t lo', h.fw, ht.kept fun x hx => hset _ (htf x hx), fun x hx => ?_, belowRow10 h1.bel f h.fw _, hl, hd⟩
  · rcases hts with rfl | e
    · exact h.nr x hx
    · intro hk
      have := e x hx
      have := h.h.lim _ hk
      omega
  · rcases hts with rfl | e
    · exact h.rw_ x hx
    · have := e x hx; omega
/-- Blocks that aren't the program's hold's stay. -/
theorem PlayM.keep (h : PlayM W wr F f g N S L lo s) (hc : Chg F wr w') (k : Nat) (hk : k < wr.heap.size) (hn : ¬ F k) : w'.heap[k]? = wr.heap[k]? := hc.block k hk hn
theorem PlayM.noF (h : PlayM W wr F f g N S L lo s) (k : Nat) (hk : wr.heap.size ≤ k) : ¬ F k := fun e => by have := h.h.lim k e; omega
/-- What lies behind an elder world has turned alone. -/
theorem PlayM.far {w6 : World} {D : Nat → Prop} (h6 : PlayM W w6 F f g N S L lo s) (h : PlayM W wr F f g N S L lo s) (hc : Chg D wr w') (hD : ∀ k, D k → w6.heap.size ≤ k) : PlayM W w' F f g N S L lo s :=
  h.chg hc (fun k hk hd => by have := h6.h.lim k hk; have := hD k hd; omega) (fun hd => by have := h6.rf.lt; have := hD _ hd; omega) (fun x hx hd => by have := h6.row.lt x hx; have := hD _ hd; omega) fun k hk => Nat.le_trans h6.bel.size (hD k hk)
theorem PlayM.lst (h : PlayM W wr F f g N S L lo s) : Lst encG 6 wr s.a s.n L := h.row.lst
theorem PlayM.sn (h : PlayM W wr F f g N S L lo s) : s.n ≤ N := by rw [← h.row.len]; exact h.few
theorem PlayM.dp (h : PlayM W wr F f g N S L lo s) (m : Mg) (hm : m ∈ L) : DpIn wr m := Lst.below (h.deps m hm).1 h.bel
theorem PlayM.form (h : PlayM W wr F f g N S L lo s) (n : Nat) (os : Array Obj) : PlayM W (grow (atD wr n) os) F f g N S L lo s := h.later (below_of_form wr n os)
end

theorem dp_zero (w : World) : DpIn w zeroG := ⟨rfl, fun h => absurd h (Nat.lt_irrefl 0)⟩
/-- What both Gets find. -/
structure TwoG (w : World) (x y : Mg) : Prop where
  same : sameG x y = true
  dx : DpIn w x
  dy : DpIn w y
  few : x.dl ≤ 1048576
theorem TwoG.below {w w' : World} {x y : Mg} (h : TwoG w x y) (hb : Below w.heap.size w w') : TwoG w' x y := ⟨h.same, Lst.below h.dx hb, Lst.below h.dy hb, h.few⟩
/-- What the program's Get answers, with the document's find. -/
def GetP (w : World) (o : Option Mg) (e : Ending) (w' : World) : Prop :=
  ∃ (x : Mg) (b : Bool), e = .returned (.tuple #[valG x, .bool b]) ∧ ((o = none ∧ x = zeroG ∧ b = false) ∨ ∃ m, o = some m ∧ strip x = strip m ∧ DpIn w' x ∧ x.dl ≤ 1048576 ∧ b = true) ∧ Below w.heap.size w w'
def GetR (w : World) (o : Option Mg) (e : Ending) (w' : World) : Prop :=
  ∃ (y : Mg) (b : Bool), e = .returned (.tuple #[valG y, .bool b]) ∧ ((o = none ∧ y = zeroG ∧ b = false) ∨ o = some y ∧ b = true) ∧ Below w.heap.size w w'
theorem getP_of {w : World} {o : Option Mg} {e : Ending} {w' : World} (h : GetSaid w (o.map strip) e w') : GetP w o e w' := by
  cases o with
  | none =>
    cases h with
    | no _ h => exact ⟨zeroG, false, rfl, .inl ⟨rfl, rfl, rfl⟩, h⟩
  | some m =>
    cases h with
    | yes _ x _ h1 h2 h3 => exact ⟨x, true, rfl, .inr ⟨m, rfl, h1, h2.deps, h2.few, rfl⟩, h3⟩
theorem getR_of {w : World} {o : Option Mg} {e : Ending} {w' : World} (h : RGet w o e w') : GetR w o e w' := by
  cases h with
  | no _ h => exact ⟨zeroG, false, rfl, .inl ⟨rfl, rfl, rfl⟩, h⟩
  | yes m _ h => exact ⟨m, true, rfl, .inr ⟨rfl, rfl⟩, h⟩
theorem two_of {w : World} {o : Option Mg} {x y : Mg} {b c : Bool} (h1 : (o = none ∧ x = zeroG ∧ b = false) ∨ ∃ m, o = some m ∧ strip x = strip m ∧ DpIn w x ∧ x.dl ≤ 1048576 ∧ b = true) (h2 : (o = none ∧ y = zeroG ∧ c = false) ∨ o = some y ∧ c = true)
    (hd : ∀ m, o = some m → DpIn w m) : b = c ∧ TwoG w x y := by
  rcases h1 with ⟨rfl, rfl, rfl⟩ | ⟨m, rfl, k1, k2, k3, rfl⟩
  · rcases h2 with ⟨_, rfl, rfl⟩ | ⟨h, _⟩
    · exact ⟨rfl, strip_same rfl, dp_zero w, dp_zero w, by decide⟩
    · cases h
  · rcases h2 with ⟨h, _⟩ | ⟨h, rfl⟩
    · cases h
    · cases h
      exact ⟨rfl, strip_same k1, k2, hd _ rfl, k3⟩
/-- TwoG rows of the same messages, the second one anywhere. -/
theorem all_rows2 {w : World} {B : Nat} {s : Sl} {X Y : List Mg} {ta : Option Addr} {tn tc : Nat} (hx : OutR w B s X) (hy : Lst encG 6 w ta tn Y) (hd : ∀ m ∈ Y, DpIn w m) (h : X.map strip = Y.map strip) (hn : s.n ≤ 1048576) :
    Calls Try.prog 22 #[.slice s.a s.n s.c, .slice ta tn tc] w fun e w' => e = .returned (.bool true) ∧ Grw w w' := by
  have hl : X.length = Y.length := by have := congrArg List.length h; simpa using this
  have hs := hx.slot.len
  have ht := hy.size
  have e : tn = s.n := by omega
  rw [e]
  refine allG_any s.a ta s.n s.c tc X Y w hx.slot.lst (by rw [← e]; exact hy) (fun m hm => (hx.deps m hm).deps) hd (fun m hm => (hx.deps m hm).few) (fun i x y h1 h2 => ?_) hn
  refine strip_same ?_
  have e1 : (X.map strip)[i]? = some (strip x) := by rw [List.getElem?_map, h1]; rfl
  have e2 : (Y.map strip)[i]? = some (strip y) := by rw [List.getElem?_map, h2]; rfl
  rw [h, e2] at e1
  injection e1 with e1
  exact e1.symm
/-- A row that is handed out, and what 'spoil' does to it: it lies in blocks from B up to C. -/
theorem out_upto {w : World} {B : Nat} {s : Sl} {X : List Mg} (h : OutR w B s X) : (∀ x, s.a = some x → B ≤ x.block ∧ x.block < w.heap.size) ∧ ∀ x ∈ X, DpT w (fun k => B ≤ k ∧ k < w.heap.size) x :=
  ⟨fun x hx => ⟨h.new x hx, h.slot.lt x hx⟩, fun x hx => (h.deps x hx).more fun k hk hB => ⟨hB, hk⟩⟩
theorem spoil_out {w w2 : World} {B : Nat} {s : Sl} {X : List Mg} (h : OutR w B s X) (hb : Below w.heap.size w w2) (hn : s.n ≤ 100000) :
    Calls Try.prog 14 #[.slice s.a s.n s.c] w2 (SplSaid (fun k => B ≤ k ∧ k < w.heap.size) w2) := by
  obtain ⟨h1, h2⟩ := out_upto h
  exact spoil_any s X (h.slot.below hb) h1 (fun x hx => (h2 x hx).below hb) hn
theorem putS_dep (S : Hs) (m : Mg) (a : Option Addr) (dc : Nat) : putS S { m with a := a, dc := dc } = putS S m ∧ putCode S { m with a := a, dc := dc } = putCode S m := ⟨rfl, rfl⟩
theorem hands_few {w : World} {F : Nat → Prop} {g N : Nat} {S : Hs} (h : HRep w F g N S) (p : Int) (seq : Nat) (most : Int) : (fromX (onP 0 S.lo p) (onP [] S.R p) seq most).length ≤ N := by
  unfold fromX
  rw [List.length_take, List.length_drop]
  rcases proc_cases p with ⟨k, rfl, hk⟩ | hp
  · rw [onP_yes _ _ _ hk, onP_yes _ _ _ hk]
    have := h.bnd k hk
    unfold Hs.cnt at this
    omega
  · rw [onP_no _ _ _ hp, onP_no _ _ _ hp]
    simp
/-- An act's block. -/
def AcB (w : World) (b : Nat) (a : Ha) : Prop := Own w b 39 (encA a).toArray
theorem AcB.own {w : World} {b : Nat} {a : Ha} (h : AcB w b a) : Own w b 39 #[.bool a.drop, .int .i64 a.p, .int .u32 (a.upto : Int), .int .i64 a.m.f, .int .u32 a.m.q, .int .u64 a.m.s, .int .i64 a.m.v, .slice a.m.a a.m.dl a.m.dc, .string a.m.text] := h
theorem AcB.new (w : World) (a : Ha) : AcB (w.alloc (.cells #[.bool a.drop, .int .i64 a.p, .int .u32 (a.upto : Int), .int .i64 a.m.f, .int .u32 a.m.q, .int .u64 a.m.s, .int .i64 a.m.v, .slice a.m.a a.m.dl a.m.dc, .string a.m.text] 39)) w.heap.size a := Own.new w _ _
theorem AcB.lt {w : World} {b : Nat} {a : Ha} (h : AcB w b a) : b < w.heap.size := Own.lt h
theorem AcB.below {w w' : World} {b : Nat} {a : Ha} (h : AcB w b a) (hb : Below w.heap.size w w') : AcB w' b a := (hb.block b h.lt).trans h
theorem AcB.kept {w w' : World} {b : Nat} {a : Ha} (h : AcB w b a) (hb : w'.heap[b]? = w.heap[b]?) : AcB w' b a := hb.trans h
theorem mrow_one {w : World} {g : Nat} {m : Mg} (h : MgB w g m) : MRow w g 0 1 1 [m] := by
  refine ⟨⟨(encG m).toArray, h, by simp [encG], fun j u hu => ?_⟩, rfl, Nat.le_refl _, by decide⟩
  rw [flat_cons, flat_nil, List.append_nil] at hu
  rw [Nat.zero_add, List.getElem?_toArray]
  exact hu
theorem encW_one {l : List Int} : ∀ u ∈ flat encW l, u.oneCell' = true := by
  intro u hu
  unfold flat at hu
  obtain ⟨c, hc, huc⟩ := List.mem_flatten.1 hu
  obtain ⟨m, _, rfl⟩ := List.mem_map.1 hc
  simp only [encW, List.mem_singleton] at huc
  subst huc
  rfl
theorem append_none {P : Program} {w : World} (base : Nat) (t ty e : TypeId) (i : TypeInfo) (size : Nat) (ht : P.underlying t = some (.slice e)) (hi : P.info? e = some i)
    (v : Value) (n c : Nat) (xs : List Value) (hown : w.ownsRow base e size v n xs) :
    (Builtin.append_ #[t, t] ty #[v, .slice none 0 c]).run P w = .ok v w := by
  rcases hown.2 with ⟨rfl, rfl⟩ | ⟨g, cap, cur, rfl, _, _, hnc, _⟩
  · simp [Builtin.append_, run_underlying ht, sizeOf, typeInfo, hi, Builtin.lenOf, Builtin.firstCells]
  · simp [Builtin.append_, run_underlying ht, sizeOf, typeInfo, hi, Builtin.lenOf, Builtin.firstCells, hnc, storeCells]
/-- 'append' of numbers onto a row of the call's own, whatever slice the source is. -/
theorem append_u32 (w : World) {ops : Array Oper} {rest : List Oper} {o : Oper} {a : Act} {Q : Exit → Act → World → Prop} (hgd : o.guard = none) (s x : Operand)
    (ho : o.op = .call { callee := .builtin .append, args := #[s, x], argTypes := #[35, 35] })
    (base : Nat) (v : Value) (n : Nat) (xs : List Value) (hs : a.eval s = v) (hown : w.ownsRow base 23 1 v n xs)
    (ao : Option Addr) (m c : Nat) (l : List Int) (hx : a.eval x = .slice ao m c) (hl : Lst (fun n : Int => [.int .u32 n]) 1 w ao m l) (hn : n + m ≤ 2000000) (hbase : base ≤ w.heap.size)
    (h : ∀ v' w', w'.ownsRow base 23 1 v' (n + m) (xs ++ flat encW l) → w.grownBy w' v.ownBlock → wpList Try.prog ops Q rest (a.put o.dst v') w') : wpList Try.prog ops Q (o :: rest) a w := by
  obtain ⟨i0, hi, hz0, hz1, hz2⟩ := info_parts info32s
  have ht := Try.underlying35
  cases ao with
  | none =>
    have hm : m = 0 := by
      rcases Nat.eq_zero_or_pos m with e | e
      · exact e
      · obtain ⟨b, o', e', _⟩ := hl.src e; cases e'
    subst hm
    have hl0 : l = [] := List.eq_nil_of_length_eq_zero hl.size
    subst hl0
    refine wpList_plain hgd fun K hK => ?_
    have hrun := append_none (P := Try.prog) (w := w) base 35 o.type 23 i0 1 ht hi v n c xs hown
    unfold Oper.wp
    simp [execOp, ho, resolve, invoke, builtin, hs, hx, hrun, Result.andThen]
    exact hK _ _ (h v w (by simpa [flat_nil] using hown) (World.grownBy.refl w _))
  | some ad =>
    refine wpList_append_own w hgd s x 35 ho base 23 i0 (.int .u32 0) 1 4 ht hi hz0 hz1 hz2 rfl (by decide) v n xs hs hown ad m c (flat encW l) hx (by rw [flat_length encW 1 (fun _ => rfl), hl.size]) (fun j u hj => ?_) encW_one (by unfold maxLen; omega) (by omega) hbase (fun v' w' h1 h2 _ => h v' w' h1 h2)
    have hj' : j < l.length * 1 := by have := (List.getElem?_eq_some_iff.1 hj).1; rwa [flat_length encW 1 (fun _ => rfl)] at this
    obtain ⟨b, o, e, R⟩ := hl.src (by rw [← hl.size]; omega)
    injection e with e
    subst e
    rw [add_lit10]
    exact RowAt.flat (enc := encW) (fun _ => rfl) R j u hj
/-- The message that the law puts, with Deps of its own. -/
structure MineAt (w : World) (B mb : Nat) (m : Mg) : Prop where
  blk : MgB w mb m
  dp : DpIn w m
  few : m.dl ≤ 1048576
  new : ∀ x, m.a = some x → B ≤ x.block ∧ x.block < w.heap.size ∧ ∃ cur, w.heap[x.block]? = some (.cells cur 23 (0, 0))
theorem MineAt.kept {w w' : World} {B mb : Nat} {m : Mg} (h : MineAt w B mb m) (hs : w.heap.size ≤ w'.heap.size) (hb : w'.heap[mb]? = w.heap[mb]?) (hd : ∀ x, m.a = some x → w'.heap[x.block]? = w.heap[x.block]?) : MineAt w' B mb m :=
  ⟨hb.trans h.blk, DpIn.moved h.dp hd, h.few, fun x hx => by
    obtain ⟨h1, h2, cur, h3⟩ := h.new x hx
    exact ⟨h1, by omega, cur, (hd x hx).trans h3⟩⟩
theorem MineAt.below {w w' : World} {B mb : Nat} {m : Mg} (h : MineAt w B mb m) (hb : Below w.heap.size w w') : MineAt w' B mb m :=
  h.kept hb.size (hb.block mb h.blk.lt) fun x hx => hb.block _ (h.new x hx).2.1
/-- Behind 'mine.Deps = append(..)'. -/
theorem mine_made {w5 w6 : World} {mb : Nat} {m : Mg} (hm : MgB w5 mb m) (hmb : mb < w5.heap.size) {v : Value} (hB : w5.heap.size ≤ w6.heap.size) (hown : w6.ownsRow w5.heap.size 23 1 v (0 + m.dl) ([] ++ flat encW m.deps)) (hlen : m.deps.length = m.dl) (hk : w6.heap[mb]? = w5.heap[mb]?) (hfew : m.dl ≤ 1048576) :
    ∃ (a' : Option Addr) (dc' : Nat), v = .slice a' m.dl dc' ∧ MineAt (w6.setCell ⟨mb, 4, none⟩ (.slice a' m.dl dc')) w5.heap.size mb { m with a := a', dc := dc' } := by
  have h2 := own_eq (n' := m.dl) (xs' := flat encW m.deps) hown (by omega) (List.nil_append _)
  obtain ⟨a', dc', rfl⟩ := own_form' h2
  have hL : Lst (fun n : Int => [.int .u32 n]) 1 w6 a' m.dl m.deps := own_lst' (enc := encW) (fun _ => rfl) hlen h2
  have hN : ∀ x, a' = some x → w5.heap.size ≤ x.block ∧ ∃ cur, w6.heap[x.block]? = some (.cells cur 23 (0, 0)) := fun x hx => ⟨(h2.lt x.block (by rw [hx]; rfl)).1, by
    subst hx
    rcases h2.2 with ⟨h1, _⟩ | ⟨g, c, cur, h1, _, h3, _⟩
    · cases h1
    · injection h1 with h1 _ _
      injection h1 with h1
      subst h1
      exact ⟨cur, h3⟩⟩
  have hset : ∀ j, j ≠ mb → (w6.setCell ⟨mb, 4, none⟩ (.slice a' m.dl dc')).heap[j]? = w6.heap[j]? := fun j hj => heap_setCell_other w6 _ j _ hj
  have hm6 : MgB w6 mb m := hk.trans hm
  have hm7 : MgB (w6.setCell ⟨mb, 4, none⟩ (.slice a' m.dl dc')) mb { m with a := a', dc := dc' } := Own.set hm6.own 4 (.slice a' m.dl dc')
  have hne : ∀ x, a' = some x → x.block ≠ mb := fun x hx => by have := (hN x hx).1; omega
  refine ⟨a', dc', rfl, hm7, ?_, hfew, fun x hx => ?_⟩
  · exact DpIn.moved (x := { m with a := a', dc := dc' }) hL fun x hx => hset _ (hne x hx)
  · obtain ⟨h3, cur, h4⟩ := hN x hx
    have h5 := (hset _ (hne x hx)).trans h4
    exact ⟨h3, (Array.getElem?_eq_some_iff.1 h5).1, cur, h5⟩
/-- The document's hold, loaded whole by a guarded operation. -/
theorem load_rh_if {ops : Array Oper} {rest : List Oper} {o : Oper} {a : Act} {w : World} {Q : Exit → Act → World → Prop} (hw : Region.wanted o (yielded ops a.tmps) = true) (x : Operand) (ho : o.op = .load 34 x)
    (b : Nat) (s : Sl) (lo : Nat → Nat) (hx : a.eval x = .pointer (some ⟨b, 0, none⟩)) (hg : RhB w b s lo)
    (h : wpList Try.prog ops Q rest (a.put o.dst (.agg (rhC s lo).toArray)) w) : wpList Try.prog ops Q (o :: rest) a w := by
  unfold wpList
  rw [if_pos hw]
  exact .inl (wp_load_row 34 x ho b hx 34 _ _ _ hg Try.underlying34 rfl (by rw [List.size_toArray, rhC_length]; exact rh_size) h)
end Go.Proofs.Ytafenlacacghoaa
