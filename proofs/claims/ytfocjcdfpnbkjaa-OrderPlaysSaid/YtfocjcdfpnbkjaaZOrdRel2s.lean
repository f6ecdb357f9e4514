/- Both orders: the start, what is left. Plain facts. -/
import Derived.Test.YtfocjcdfpnbkjaaZRoDrain
import Derived.Test.YtfocjcdfpnbkjaaZRzNews
import Derived.Test.YtfocjcdfpnbkjaaZRoRest
import Derived.Test.YtfocjcdfpnbkjaaZHdVecs
import Derived.Test.YtfocjcdfpnbkjaaZSMaps
import Derived.Test.YtfocjcdfpnbkjaaZOrdOpens
set_option linter.unusedVariables false
set_option maxRecDepth 100000
set_option linter.unusedSimpArgs false
namespace Go.Proofs.Ytfocjcdfpnbkjaa
open Go.RowKit Go.Sort Go.Shelf

theorem ORel.start (me : Int) (s : Nat) (m0 : -9223372036854775808 ≤ me) (m1 : me ≤ 9223372036854775807) : ORel (newO me s) (rNew me s) [] [] := by
  refine ⟨newO_ok me s m0 m1, rfl, rfl, PRel.start, ?_, rfl, ?_, rfl, rfl, fun p hp => Nat.zero_le _, fun p hp _ => rfl⟩
  · exact ZRel.start _
  · show but (any s (onl me)) (onl me) = but s (onl me)
    refine set_ext _ _ (but_lt _ _) (but_lt _ _) fun i hi => ?_
    unfold but any
    rw [num_bit, num_bit, num_bit]
    cases s.testBit i <;> cases (onl me).testBit i <;> simp
/-- What is left is the same. -/
theorem ORel.rest {O : Od} {r : Ro} {L : List Mg} {T : List Td} (h : ORel O r L T) {Y M : List Mg} (hY : IsRest O (Y.map strip)) (hM : IsSrt Mg.key (catF (outAll L r.lo) ⟨0, -1⟩ 64) M) : Y.map strip = (M.filter (leftR r.dn)).map strip := by
  have hl : (leftM O ∘ strip) = leftR r.dn := by
    funext x
    show (!decide (x.q ≤ (O.dn x.f.toNat : Int))) = decide ((r.dn x.f.toNat : Int) < x.q)
    rw [h.dn]
    by_cases e : x.q ≤ (r.dn x.f.toNat : Int)
    · rw [decide_eq_true e, decide_eq_false (by omega)]; rfl
    · rw [decide_eq_false e, decide_eq_true (by omega)]; rfl
  have hl2 : (leftM O ∘ strip) = leftM O := rfl
  have e1 : ∀ l : List Mg, (l.filter (leftM O)).map strip = (l.map strip).filter (leftM O) := fun l => by rw [List.filter_map, hl2]
  have h1 := isSrt_strip hY
  rw [e1, List.map_map, show (strip ∘ strip) = strip from rfl, h.P.above] at h1
  have h2 := srt_filter (isSrt_strip hM) (leftM O)
  rw [IsSrt.one h1 h2, List.filter_map, hl]
theorem outAll_len (L : List Mg) (lo : Nat → Nat) (hL : L.length ≤ 1000) : (catF (outAll L lo) ⟨0, -1⟩ 64).length ≤ 100000 := by
  have := catF_len (outAll L lo) ⟨0, -1⟩ 1000 (fun q hq => by
    have e4 := outA_le L lo (q : Int) 0 (L.length : Int) (cntA L (q : Int))
    have e5 := cntA_le L (q : Int)
    unfold outAll
    omega) 64 (Nat.le_refl _)
  omega
end Go.Proofs.Ytfocjcdfpnbkjaa

/- Rows of numbers: Vectors, Dones. -/
set_option linter.unusedVariables false
set_option maxRecDepth 100000
set_option linter.unusedSimpArgs false
namespace Go.Proofs.Ytfocjcdfpnbkjaa
open Go.RowKit Go.Sort Go.Shelf

def encV (n : Nat) : List Value := [.int .u32 (n : Int)]
theorem encV_length (n : Nat) : (encV n).length = 1 := rfl
set_option maxHeartbeats 4000000 in
theorem vec14 (a b : Option Addr) (n c c' : Nat) (l : List Nat) (w : World) (ha : Lst encV 1 w a n l) (hb : Lst encV 1 w b n l) (hn : n ≤ 64) :
    Calls Try.prog 25 #[.slice a n c, .slice b n c'] w fun e w' => e = .returned (.bool true) ∧ Below w.heap.size w w' := by
  have HA := Lib.hid ha
  have HB := Lib.hid hb
  clear ha hb
  go_enter Try.func25, Try.ntmps25
  go_wp2
  go_loopw [5] (fun si wr => ∃ i : Nat, i ≤ n ∧ si = .int .i64 i ∧ Hid (Below w.heap.size w wr)) (fun si _ => n - (intOf si).toNat)
  case atStart => exact ⟨0, Nat.zero_le _, rfl, Lib.hid (Below.refl _ _)⟩
  case round =>
    obtain ⟨i, hi, rfl, HS⟩ := hrel
    by_cases hlt : i < n
    · obtain ⟨x, hx⟩ : ∃ x, l[i]? = some x := ⟨_, List.getElem?_eq_getElem (by rw [HA.out.size]; exact hlt)⟩
      obtain ⟨b1, o1, e1, hr1⟩ := HA.out.src (show 0 < n by omega)
      obtain ⟨b2, o2, e2, hr2⟩ := HB.out.src (show 0 < n by omega)
      subst e1
      subst e2
      have d1 := cell_later HS.out (hr1 i x hx 0 _ rfl)
      have d2 := cell_later HS.out (hr2 i x hx 0 _ rfl)
      rw [Nat.add_zero, Nat.mul_one] at d1 d2
      clear hr1 hr2 hx
      go_upto_region 6 with fail
      go_quiet (fail)
      have HN := Lib.hid (HS.out.trans (((Grw.refl wr).drewN nq).below.mono HS.out.size))
      clear HS d1 d2
      go_wp2
      go_roundw
      case rel => exact ⟨i + 1, by omega, by go_num, HN⟩
      case measure => simp [intOf]; omega
    · go_wp2
      go_ret
      exact ⟨rfl, HS.out⟩
/-- What was delivered of the first k. -/
def firstN (f : Nat → Nat) (k : Nat) : List Nat := (List.range k).map f
theorem RoB.vec {w : World} {b : Nat} {r : Ro} (h : RoB w b r) (k : Nat) (hk : k ≤ 64) : Lst encV 1 w (some ⟨b, 133, none⟩) k (firstN r.dn k) :=
  ⟨by simp [firstN], fun h0 => ⟨b, 133, rfl, fun i x hx c v hv => by
    unfold firstN at hx
    rw [List.getElem?_map] at hx
    have hi : i < k := by
      rcases Nat.lt_or_ge i k with e | e
      · exact e
      · rw [List.getElem?_eq_none (by simpa using e)] at hx; cases hx
    rw [List.getElem?_range hi] at hx
    have hx' : r.dn i = x := by simpa using hx
    subst hx'
    have hc : c = 0 := by have := (List.getElem?_eq_some_iff.1 hv).1; simp [encV] at this; exact this
    subst hc
    have hv' : Value.int .u32 (r.dn i : Int) = v := by simpa [encV] using hv
    rw [← hv', Nat.mul_one, Nat.add_zero]
    exact h.dn i (by omega)⟩⟩
end Go.Proofs.Ytfocjcdfpnbkjaa

/- Dones. (After s12's HdVec.) -/
set_option linter.unusedVariables false
set_option maxRecDepth 100000
set_option linter.unusedSimpArgs false
namespace Go.Proofs.Ytfocjcdfpnbkjaa
open Go.RowKit Go.Sort Go.Shelf

set_option maxHeartbeats 4000000 in
theorem odones {w : World} {E : Nat → Prop} {g N : Nat} {O : Od} (h : ORep w E g N O) (hq : ∀ k : Nat, k < 64 → doneO O (k : Int) = O.dn k) (n : Int) (n0 : -9223372036854775808 ≤ n) (n1 : n ≤ 9223372036854775807) :
    Calls Try.prog 24 #[.pointer (some ⟨g, 0, none⟩), .int .i64 n] w (VecSaid w (vecN n) (O.dn)) := by
  obtain ⟨c, hc⟩ : ∃ c, c = vecN n := ⟨_, rfl⟩
  rw [← hc]
  have hc64 : c ≤ 64 := by rw [hc]; unfold vecN; omega
  obtain ⟨mx, hmx⟩ : ∃ mx : Nat, mx = n.toNat := ⟨_, rfl⟩
  have hm1 : (if (0 : Int) > n then 0 else n) = (mx : Int) := by rw [hmx]; split <;> omega
  have hm2 : (if (64 : Int) < (mx : Int) then 64 else (mx : Int)) = (c : Int) := by rw [hc, hmx]; unfold vecN; split <;> omega
  have HM1 := Lib.hid hm1
  have HM2 := Lib.hid hm2
  have hmk := makesU12 c (by omega) w
  have hO := Own.new w 30 (List.replicate c (Value.int .u32 0)).toArray
  have HO := Lib.hid hO
  have HB0 := Lib.hid ((Grw.refl w).alloc (.cells (List.replicate c (Value.int .u32 0)).toArray 30)).below
  have HC0 := Lib.hid (List.length_replicate (n := c) (a := Value.int .u32 0))
  have HH := Lib.hid h
  have HQ := Lib.hid hq
  generalize List.replicate c (Value.int .u32 0) = C at *
  clear hc hmx hm1 hm2 hO h hq
  go_enter Try.func24, Try.ntmps24
  go_wp2_with (first | (refine step_max2 rfl (.tmp 7) _ _ _ rfl .i64 _ _ (mx : Int) rfl rfl HM1.out ?_) | (refine step_min2 rfl (.tmp 8) _ _ _ rfl .i64 _ _ (c : Int) rfl rfl HM2.out ?_))
  generalize hw1 : w.alloc (.cells C.toArray 30) = w1 at *
  clear hw1 hmk
  go_loopw [13] (fun si wr => ∃ (k : Nat) (cs : List Value), k ≤ c ∧ si = .int .i64 k ∧ Hid (Own wr w.heap.size 30 cs.toArray ∧ cs.length = c ∧ (∀ j, j < k → cs[j]? = some (.int .u32 (O.dn j : Int))) ∧ Below w.heap.size w wr)) (fun si _ => c - (intOf si).toNat)
  case atStart => exact ⟨0, C, Nat.zero_le _, rfl, Lib.hid ⟨HO.out, HC0.out, fun j hj => by omega, HB0.out⟩⟩
  case round =>
    obtain ⟨k, cs, hk, rfl, HS⟩ := hrel
    by_cases hlt : k < c
    · obtain ⟨hOw, hcl, hcs, hB⟩ := HS.out
      have P := odone (HH.out.below hB) (k : Int) (by omega) (by omega)
      rw [HQ.out k (by omega)] at P
      have hkc : k < cs.length := by omega
      have c1 : wr.cell? ⟨w.heap.size, k, none⟩ = some cs[k] := hOw.at_ k _ (by rw [List.getElem?_toArray, List.getElem?_eq_getElem hkc])
      have f1 := hOw.free k
      generalize cs[k] = u at c1
      have HN : Hid (Own (wr.setCell ⟨w.heap.size, k, none⟩ (.int .u32 (O.dn k : Int))) w.heap.size 30 (cs.set k (.int .u32 (O.dn k : Int))).toArray ∧ (cs.set k (.int .u32 (O.dn k : Int))).length = c ∧ (∀ j, j < k + 1 → (cs.set k (.int .u32 (O.dn k : Int)))[j]? = some (.int .u32 (O.dn j : Int))) ∧ Below w.heap.size w (wr.setCell ⟨w.heap.size, k, none⟩ (.int .u32 (O.dn k : Int)))) := by
        refine Lib.hid ⟨?_, by rw [List.length_set]; exact hcl, fun j hj => ?_, hB.setCell (Nat.le_refl _) _⟩
        · have := hOw.set k (.int .u32 (O.dn k : Int))
          rwa [List.setIfInBounds_toArray] at this
        · rw [List.getElem?_set]
          by_cases e : k = j
          · subst e; rw [if_pos rfl, if_pos hkc]
          · rw [if_neg e]; exact hcs j (by omega)
      clear hOw hcl hcs hB HS hkc
      generalize O.dn k = q at *
      go_wp2_with (go_at_call 26; refine P.mono ?_; rintro e w' ⟨rfl, rfl⟩)
      go_roundw
      case rel => exact ⟨k + 1, _, by omega, by go_num, HN⟩
      case measure => simp [intOf]; omega
    · have hs := HS.out
      go_wp2
      go_ret
      refine ⟨rfl, fun j hj => ?_, hs.2.2.2⟩
      exact hs.1.at_ j _ (by rw [List.getElem?_toArray]; exact hs.2.2.1 j (by omega))
/-- What both say of how many were delivered. -/
theorem ORel.done {O : Od} {r : Ro} {L : List Mg} {T : List Td} (h : ORel O r L T) (k : Nat) (hk : k < 64) : doneO O (k : Int) = O.dn k := by
  unfold doneO
  rw [mem_nat _ _ hk, Int.toNat_natCast]
  cases hb : O.ms.testBit k with
  | true => rfl
  | false =>
    have h0 := h.nom k hk hb
    have h1 := h.ok.dc k hk
    rw [if_neg (by decide)]
    omega
theorem vec_lst {w w' : World} {c : Nat} {f : Nat → Nat} {b : Nat} (h : ∀ j, j < c → w'.cell? ⟨b, j, none⟩ = some (.int .u32 (f j : Int))) : Lst encV 1 w' (some ⟨b, 0, none⟩) c (firstN f c) :=
  ⟨by simp [firstN], fun h0 => ⟨b, 0, rfl, fun i x hx k v hv => by
    unfold firstN at hx
    rw [List.getElem?_map] at hx
    have hi : i < c := by
      rcases Nat.lt_or_ge i c with e | e
      · exact e
      · rw [List.getElem?_eq_none (by simpa using e)] at hx; cases hx
    rw [List.getElem?_range hi] at hx
    have hx' : f i = x := by simpa using hx
    subst hx'
    have hc : k = 0 := by have := (List.getElem?_eq_some_iff.1 hv).1; simp [encV] at this; exact this
    subst hc
    have hv' : Value.int .u32 (f i : Int) = v := by simpa [encV] using hv
    rw [← hv', Nat.mul_one, Nat.add_zero, Nat.zero_add]
    exact h i hi⟩⟩
end Go.Proofs.Ytfocjcdfpnbkjaa

/- Both orders in one world. -/
set_option linter.unusedVariables false
set_option maxRecDepth 100000
set_option linter.unusedSimpArgs false
namespace Go.Proofs.Ytfocjcdfpnbkjaa
open Go.RowKit Go.Sort Go.Shelf

/-- The program's order O in the blocks E, the document's r and its rows apart from them; W is the law's first world. -/
structure PlM (W wr : World) (E : Nat → Prop) (g N : Nat) (O : Od) (r : Ro) (L : List Mg) (T : List Td) : Prop where
  rep : ORep wr E g N O
  base : ∀ j, E j → W.heap.size ≤ j
  bel : Below W.heap.size W wr
  v : RoV wr r L T
  nh : ∀ x, r.hs.a = some x → ¬ E x.block
  nz : ∀ x, r.zs.a = some x → ¬ E x.block
  deps : ∀ m ∈ L, DpIn W m ∧ m.dl ≤ 1048576
  fewh : r.hs.n ≤ N
  fewz : r.zs.n ≤ N
section
variable {W wr w' : World} {E : Nat → Prop} {g N M : Nat} {O P : Od} {r r' : Ro} {L L' : List Mg} {T T' : List Td}
theorem PlM.later (h : PlM W wr E g N O r L T) (hb : Below wr.heap.size wr w') : PlM W w' E g N O r L T :=
  ⟨h.rep.below hb, h.base, h.bel.trans (hb.mono h.bel.size), h.v.below hb, h.nh, h.nz, h.deps, h.fewh, h.fewz⟩
theorem PlM.le (h : PlM W wr E g N O r L T) (hm : N ≤ M) : PlM W wr E g M O r L T :=
  ⟨h.rep.le hm, h.base, h.bel, h.v, h.nh, h.nz, h.deps, Nat.le_trans h.fewh hm, Nat.le_trans h.fewz hm⟩
/-- The rows stay where only blocks of E turn. -/
theorem PlM.rows (h : PlM W wr E g N O r L T) (hc : Chg E wr w') : RoV w' r L T :=
  ⟨h.v.hold.kept fun x hx => hc.block _ (h.v.hold.lt x hx) (h.nh x hx), h.v.told.kept hc.size fun x hx => hc.block _ (h.v.told.lt x hx) (h.nz x hx), h.v.few, h.v.fewz⟩
/-- The program's order has turned. -/
theorem PlM.prog (h : PlM W wr E g N O r L T) (hm : N ≤ M) (hr : ORep w' (newF E wr w') g M P) (hc : Chg E wr w') : PlM W w' (newF E wr w') g M P r L T := by
  refine ⟨hr, fun j hj => ?_, h.bel.trans (hc.below h.bel.size h.base), h.rows hc, fun x hx e => ?_, fun x hx e => ?_, h.deps, Nat.le_trans h.fewh hm, Nat.le_trans h.fewz hm⟩
  · rcases hj with e | e
    · exact h.base j e
    · exact Nat.le_trans h.bel.size e.1
  · rcases e with e | e
    · exact h.nh x hx e
    · have := h.v.hold.lt x hx
      have := e.1
      omega
  · rcases e with e | e
    · exact h.nz x hx e
    · have := h.v.told.lt x hx
      have := e.1
      omega
/-- The same, in its own blocks alone. -/
theorem PlM.prog0 (h : PlM W wr E g N O r L T) (hm : N ≤ M) (hr : ORep w' E g M P) (hc : Chg E wr w') : PlM W w' E g M P r L T :=
  ⟨hr, h.base, h.bel.trans (hc.below h.bel.size h.base), h.rows hc, h.nh, h.nz, h.deps, Nat.le_trans h.fewh hm, Nat.le_trans h.fewz hm⟩
/-- The document's order has turned. -/
theorem PlM.doc (h : PlM W wr E g N O r L T) (hm : N ≤ M) (hb : Below wr.heap.size wr w') (hV : RoV w' r' L' T') (hN : RoN wr.heap.size r r') (hd : ∀ m ∈ L', DpIn W m ∧ m.dl ≤ 1048576) (h1 : r'.hs.n ≤ M) (h2 : r'.zs.n ≤ M) : PlM W w' E g M O r' L' T' := by
  refine ⟨(h.rep.below hb).le hm, h.base, h.bel.trans (hb.mono h.bel.size), hV, fun x hx e => ?_, fun x hx e => ?_, hd, h1, h2⟩
  · rcases hN.hold with e2 | e2
    · rw [e2] at hx; exact h.nh x hx e
    · have := e2 x hx
      have := h.rep.lim _ e
      omega
  · rcases hN.told with e2 | e2
    · rw [e2] at hx; exact h.nz x hx e
    · have := e2 x hx
      have := h.rep.lim _ e
      omega
/-- A block of the call's own is laid anew. -/
theorem PlM.box (h : PlM W wr E g N O r L T) (b : Nat) (cs : Array Value) (hb : W.heap.size ≤ b) (hE : ¬ E b) (h1 : ∀ x, r.hs.a = some x → x.block ≠ b) (h2 : ∀ x, r.zs.a = some x → x.block ≠ b) : PlM W (wr.setRow b cs) E g N O r L T := by
  have hs : (wr.setRow b cs).heap.size = wr.heap.size := size_setRow _ _ _
  exact ⟨h.rep.kept (Nat.le_of_eq hs.symm) fun k hk => setRow_other _ _ _ _ (fun e => hE (e ▸ hk)), h.base, belowRow10 h.bel _ hb _, ⟨h.v.hold.kept fun x hx => setRow_other _ _ _ _ (h1 x hx), h.v.told.kept (Nat.le_of_eq hs.symm) fun x hx => setRow_other _ _ _ _ (h2 x hx), h.v.few, h.v.fewz⟩, h.nh, h.nz, h.deps, h.fewh, h.fewz⟩
theorem Chg.row14 {D : Nat → Prop} {a w : World} (h : Chg D a w) (b : Nat) (cs : Array Value) (hb : a.heap.size ≤ b) : Chg D a (w.setRow b cs) :=
  ⟨h.os, h.tape, h.output, by rw [size_setRow]; exact h.size, fun k hk hn => (setRow_other _ _ _ _ (by omega)).trans (h.block k hk hn)⟩
theorem PlM.dp (h : PlM W wr E g N O r L T) (m : Mg) (hm : m ∈ L) : DpIn wr m := (h.deps m hm).1.below h.bel
theorem PlM.len (h : PlM W wr E g N O r L T) : L.length ≤ 1000 := by rw [h.v.hold.len]; exact h.v.few
end
/-- An act's block. -/
def ActB (w : World) (b : Nat) (a : OA) : Prop := Own w b 49 (encO a).toArray
/-- What 'play' answers. -/
def PlaySaid (W wr : World) (E : Nat → Prop) (g N : Nat) (e : Ending) (w' : World) : Prop :=
  ∃ E' O' r' L' T', e = .returned (.tuple #[.agg r'.cs.toArray, .bool true]) ∧ PlM W w' E' g (N + 1) O' r' L' T' ∧ ORel O' r' L' T' ∧ Chg E wr w' ∧ ∀ k, E' k → newF E wr w' k
end Go.Proofs.Ytfocjcdfpnbkjaa

/- play: a message is taken. -/
set_option linter.unusedVariables false
set_option maxRecDepth 100000
set_option linter.unusedSimpArgs false
namespace Go.Proofs.Ytfocjcdfpnbkjaa
open Go.RowKit Go.Sort Go.Shelf

/-- The boxes of play. -/
structure PyB (V : World) (e0 : Nat) (r : Ro) (a : OA) : Prop where
  e : RoB V e0 r
  a : ActB V (e0 + 1) a
  z : RoB V (e0 + 2) ro0
  sz : e0 + 3 ≤ V.heap.size
section
variable {V V' : World} {e0 : Nat} {r : Ro} {a : OA}
theorem PyB.later (h : PyB V e0 r a) (hb : Below V.heap.size V V') : PyB V' e0 r a :=
  ⟨h.e.below hb, (hb.block _ (Own.lt h.a)).trans h.a, h.z.below hb, Nat.le_trans h.sz hb.size⟩
theorem PyB.chg {D : Nat → Prop} (h : PyB V e0 r a) (hc : Chg D V V') (hD : ∀ j, D j → j < e0 ∨ e0 + 3 ≤ j) : PyB V' e0 r a :=
  ⟨h.e.kept (hc.block _ h.e.lt (fun e => by have := hD _ e; omega)), (hc.block _ (Own.lt h.a) (fun e => by have := hD _ e; omega)).trans h.a, h.z.kept (hc.block _ h.z.lt (fun e => by have := hD _ e; omega)), Nat.le_trans h.sz hc.size⟩
theorem PyB.first (w : World) (r : Ro) (a : OA) : PyB (((w.alloc (.cells r.cs.toArray 41)).alloc (.cells (encO a).toArray 49)).alloc (.cells ro0.cs.toArray 41)) w.heap.size r a ∧ Below w.heap.size w (((w.alloc (.cells r.cs.toArray 41)).alloc (.cells (encO a).toArray 49)).alloc (.cells ro0.cs.toArray 41)) := by
  have G1 := (Grw.refl w).alloc (.cells r.cs.toArray 41)
  have G2 := G1.alloc (.cells (encO a).toArray 49)
  have G3 := G2.alloc (.cells ro0.cs.toArray 41)
  have hs1 : (w.alloc (.cells r.cs.toArray 41)).heap.size = w.heap.size + 1 := by simp
  have hs2 : ((w.alloc (.cells r.cs.toArray 41)).alloc (.cells (encO a).toArray 49)).heap.size = w.heap.size + 2 := by simp
  refine ⟨⟨((RoB.new w r).below ((Grw.refl _).alloc _).below).below ((Grw.refl _).alloc _).below, ?_, ?_, by simp⟩, G3.below⟩
  · have := (Own.new (w.alloc (.cells r.cs.toArray 41)) 49 (encO a).toArray).below ((Grw.refl _).alloc (.cells ro0.cs.toArray 41)).below (Own.lt (Own.new _ _ _))
    rw [hs1] at this
    exact this
  · have := RoB.new ((w.alloc (.cells r.cs.toArray 41)).alloc (.cells (encO a).toArray 49)) ro0
    rw [hs2] at this
    exact this
end
set_option maxHeartbeats 4000000 in
theorem play_0 {W wr : World} {E : Nat → Prop} {g N : Nat} {O : Od} {r : Ro} {L : List Mg} {T : List Td} (h : PlM W wr E g N O r L T) (hr : ORel O r L T) (hN : N ≤ 998) (a : OA) (ha : a.ok W) (hdl : a.m.dl ≤ 1048576) (hk : a.kind = 0) :
    Calls Try.prog 18 #[.pointer (some ⟨g, 0, none⟩), .agg r.cs.toArray, .agg (encO a).toArray] wr (PlaySaid W wr E g N) := by
  have F := PyB.first wr r a
  have h1 := h.later F.2
  have ha1 := ha.below h1.bel
  have PT := otake h1.rep (by omega) a.m ha1.m ha1.d hdl
  have hz := ro_zero
  have HF := Lib.hid F
  have H1 := Lib.hid h1
  have HR := Lib.hid hr
  have HLIM := Lib.hid h.rep.lim
  have HROW := Lib.hid (And.intro h.v.hold.lt (And.intro h.v.told.lt h.bel.size))
  have HAM := Lib.hid (And.intro ha.m (And.intro ha.d hdl))
  clear h h1 ha ha1 F hr
  obtain ⟨kind, p, ⟨f, q, s, v, da, dl, dc, deps, text⟩, seq, st⟩ := a
  simp only at hk hdl
  subst hk
  unfold encO
  go_enter Try.func18, Try.ntmps18
  go_upto_region 1 with fail
  change Hid (PyB (((wr.alloc (.cells r.cs.toArray 41)).alloc (.cells #[.int .i64 0, .int .i64 p, .int .i64 f, .int .u32 q, .int .u64 s, .int .i64 v, .slice da dl dc, .string text, .int .u32 (seq : Int), .int .u64 (st : Int)] 49)).alloc (.cells ro0.cs.toArray 41)) wr.heap.size r _ ∧ Below wr.heap.size wr (((wr.alloc (.cells r.cs.toArray 41)).alloc (.cells #[.int .i64 0, .int .i64 p, .int .i64 f, .int .u32 q, .int .u64 s, .int .i64 v, .slice da dl dc, .string text, .int .u32 (seq : Int), .int .u64 (st : Int)] 49)).alloc (.cells ro0.cs.toArray 41))) at HF
  change Hid (PlM W (((wr.alloc (.cells r.cs.toArray 41)).alloc (.cells #[.int .i64 0, .int .i64 p, .int .i64 f, .int .u32 q, .int .u64 s, .int .i64 v, .slice da dl dc, .string text, .int .u32 (seq : Int), .int .u64 (st : Int)] 49)).alloc (.cells ro0.cs.toArray 41)) E g N O r L T) at H1
  change Calls _ _ _ (((wr.alloc (.cells r.cs.toArray 41)).alloc (.cells #[.int .i64 0, .int .i64 p, .int .i64 f, .int .u32 q, .int .u64 s, .int .i64 v, .slice da dl dc, .string text, .int .u32 (seq : Int), .int .u64 (st : Int)] 49)).alloc (.cells ro0.cs.toArray 41)) (OSaid (((wr.alloc (.cells r.cs.toArray 41)).alloc (.cells #[.int .i64 0, .int .i64 p, .int .i64 f, .int .u32 q, .int .u64 s, .int .i64 v, .slice da dl dc, .string text, .int .u32 (seq : Int), .int .u64 (st : Int)] 49)).alloc (.cells ro0.cs.toArray 41)) E g (N + 1) (takeO O ⟨f, q, s, v, da, dl, dc, deps, text⟩) _) at PT
  generalize ((wr.alloc (.cells r.cs.toArray 41)).alloc (.cells #[.int .i64 0, .int .i64 p, .int .i64 f, .int .u32 q, .int .u64 s, .int .i64 v, .slice da dl dc, .string text, .int .u32 (seq : Int), .int .u64 (st : Int)] 49)).alloc (.cells ro0.cs.toArray 41) = V at *
  unfold valG at PT
  simp only [encG] at PT
  obtain ⟨e0, he0⟩ : ∃ e0, e0 = wr.heap.size := ⟨_, rfl⟩
  rw [← he0] at HF
  try rw [← he0]
  have HE0 := Lib.hid he0
  clear he0
  have d0 : V.cell? ⟨e0 + 1, 0, none⟩ = some (.int .i64 0) := Own.at_ HF.out.1.a 0 _ rfl
  have d2 : V.cell? ⟨e0 + 1, 2, none⟩ = some (.int .i64 f) := Own.at_ HF.out.1.a 2 _ rfl
  have d3 : V.cell? ⟨e0 + 1, 3, none⟩ = some (.int .u32 q) := Own.at_ HF.out.1.a 3 _ rfl
  have d4 : V.cell? ⟨e0 + 1, 4, none⟩ = some (.int .u64 s) := Own.at_ HF.out.1.a 4 _ rfl
  have d5 : V.cell? ⟨e0 + 1, 5, none⟩ = some (.int .i64 v) := Own.at_ HF.out.1.a 5 _ rfl
  have d6 : V.cell? ⟨e0 + 1, 6, none⟩ = some (.slice da dl dc) := Own.at_ HF.out.1.a 6 _ rfl
  have d7 : V.cell? ⟨e0 + 1, 7, none⟩ = some (.string text) := Own.at_ HF.out.1.a 7 _ rfl
  go_wp2_with fail
  with_reducible refine PT.mono ?_
  rintro e w4 hs
  obtain ⟨rfl, k2, k3⟩ := hs
  have H2 := Lib.hid (H1.out.prog (Nat.le_succ N) k2 k3)
  have HEL : Hid (∀ j, E j → j < e0) := Lib.hid fun j hj => by have := HLIM.out j hj; have := HE0.out; omega
  have B2 := Lib.hid (HF.out.1.chg k3 fun j hj => .inl (HEL.out j hj))
  have C2 := Lib.hid (Chg.after (by have := HF.out.2; rw [HE0.out] at this; exact this) k3)
  have HNF : Hid (∀ j, newF E V w4 j → j < e0 ∨ e0 + 3 ≤ j) := Lib.hid fun j hj => by
    rcases hj with e | e
    · exact .inl (HEL.out j e)
    · have := HF.out.1.sz; have := e.1; exact .inr (by omega)
  have HSZ : Hid (e0 + 3 ≤ w4.heap.size) := Lib.hid (Nat.le_trans HF.out.1.sz k3.size)
  clear PT k2 k3 d0 d2 d3 d4 d5 d6 d7
  have HE2 : Hid (∀ k, newF E V w4 k → E k ∨ (wr.heap.size ≤ k ∧ k < w4.heap.size)) := Lib.hid fun k hk => by
    rcases hk with e | e
    · exact .inl e
    · have := HF.out.2.size; have := HE0.out; exact .inr ⟨by omega, e.2⟩
  generalize newF E V w4 = E2 at *
  have d2 : w4.cell? ⟨e0 + 1, 2, none⟩ = some (.int .i64 f) := Own.at_ B2.out.a 2 _ rfl
  have d3 : w4.cell? ⟨e0 + 1, 3, none⟩ = some (.int .u32 q) := Own.at_ B2.out.a 3 _ rfl
  have d4 : w4.cell? ⟨e0 + 1, 4, none⟩ = some (.int .u64 s) := Own.at_ B2.out.a 4 _ rfl
  have d5 : w4.cell? ⟨e0 + 1, 5, none⟩ = some (.int .i64 v) := Own.at_ B2.out.a 5 _ rfl
  have d6 : w4.cell? ⟨e0 + 1, 6, none⟩ = some (.slice da dl dc) := Own.at_ B2.out.a 6 _ rfl
  have d7 : w4.cell? ⟨e0 + 1, 7, none⟩ = some (.string text) := Own.at_ B2.out.a 7 _ rfl
  have PK := ro_take r L T w4 H2.out.v (by rw [← HR.out.ms]; exact HR.out.ok.m) (by have := H1.out.fewh; omega) (by have := H1.out.fewz; omega) ⟨f, q, s, v, da, dl, dc, deps, text⟩ HAM.out.1.q0 HAM.out.1.q1 HAM.out.1.s0 HAM.out.1.s1
  have REL := fun t u => HR.out.take ⟨f, q, s, v, da, dl, dc, deps, text⟩ HAM.out.1 t u
  rw [← (REL r.hs r.zs).1] at PK
  obtain ⟨cd, hcd⟩ : ∃ cd, cd = takeCode O ⟨f, q, s, v, da, dl, dc, deps, text⟩ := ⟨_, rfl⟩
  obtain ⟨ck, hck⟩ : ∃ ck, ck = (if mem r.ms (⟨f, q, s, v, da, dl, dc, deps, text⟩ : Mg).f ∧ rcode L ⟨f, q, s, v, da, dl, dc, deps, text⟩ = 0 then takeClk r ⟨f, q, s, v, da, dl, dc, deps, text⟩ else r.clk) := ⟨_, rfl⟩
  obtain ⟨LL, hLL⟩ : ∃ LL, LL = (if mem r.ms (⟨f, q, s, v, da, dl, dc, deps, text⟩ : Mg).f then rputL L ⟨f, q, s, v, da, dl, dc, deps, text⟩ else L) := ⟨_, rfl⟩
  obtain ⟨TT, hTT⟩ : ∃ TT, TT = (if mem r.ms (⟨f, q, s, v, da, dl, dc, deps, text⟩ : Mg).f ∧ rcode L ⟨f, q, s, v, da, dl, dc, deps, text⟩ = 0 then takeT r ⟨f, q, s, v, da, dl, dc, deps, text⟩ T else T) := ⟨_, rfl⟩
  have REL2 : ∀ t u, ORel (takeO O ⟨f, q, s, v, da, dl, dc, deps, text⟩) { r with hs := t, zs := u, clk := ck } LL TT := fun t u => by rw [hck, hLL, hTT]; exact (REL t u).2
  have HLL : Hid (∀ x ∈ LL, x ∈ L ∨ x = ⟨f, q, s, v, da, dl, dc, deps, text⟩) := Lib.hid fun x hx => by
    rw [hLL] at hx
    split at hx
    · exact rputL_mem _ _ hx
    · exact .inl hx
  have HLN : Hid (LL.length ≤ L.length + 1 ∧ TT.length ≤ T.length + 1) := Lib.hid (by
    rw [hLL, hTT]
    constructor
    · split
      · exact rput_len _ _
      · omega
    · split
      · unfold takeT; split <;> simp
      · omega)
  rw [← hck, ← hLL, ← hTT, ← hcd] at PK
  rw [← hcd]
  have HREL := Lib.hid REL2
  clear REL REL2 hck hLL hTT hcd
  unfold valG RTake at PK
  simp only [encG] at PK
  go_wp2_with (first | (refine load_ro rfl (.tmp 4) rfl e0 r rfl B2.out.e ?_) | fail)
  with_reducible refine PK.mono ?_
  rintro e w5 hs
  obtain ⟨t, u, rfl, hV5, hB5, hN5⟩ := hs
  obtain ⟨r5, hr5⟩ : ∃ r5, r5 = ({ r with hs := t, zs := u, clk := ck } : Ro) := ⟨_, rfl⟩
  have REL5 := HREL.out t u
  rw [← hr5] at hV5 hN5 REL5
  rw [← hr5]
  have hLl : LL.length = r5.hs.n := hV5.hold.len
  have hTl : TT.length = r5.zs.n := hV5.told.lst.size
  have hl0 : L.length = r.hs.n := H2.out.v.hold.len
  have ht0 : T.length = r.zs.n := H2.out.v.told.lst.size
  have H5 := Lib.hid (H2.out.doc (M := N + 1) (Nat.le_refl _) hB5 hV5 hN5 (fun x hx => by
    rcases HLL.out x hx with e | e
    · exact H2.out.deps x e
    · rw [e]; exact ⟨HAM.out.2.1, HAM.out.2.2⟩) (by have := HLN.out.1; have := H1.out.fewh; omega) (by have := HLN.out.2; have := H1.out.fewz; omega))
  have B5 := Lib.hid (B2.out.later hB5)
  have C5 := Lib.hid (C2.out.then hB5)
  have HR5 : Hid ((∀ x, r5.hs.a = some x → x.block ≠ e0 + 2) ∧ (∀ x, r5.zs.a = some x → x.block ≠ e0 + 2)) := Lib.hid (by
    have h1 := HSZ.out
    have h2 := HE0.out
    refine ⟨fun x hx => ?_, fun x hx => ?_⟩
    · rcases hN5.hold with e | e
      · rw [e] at hx; have := HROW.out.1 x hx; omega
      · have := e x hx; omega
    · rcases hN5.told with e | e
      · rw [e] at hx; have := HROW.out.2.1 x hx; omega
      · have := e x hx; omega)
  have HS5 : Hid (w4.heap.size ≤ w5.heap.size) := Lib.hid hB5.size
  have HREL5 := Lib.hid REL5
  clear PK hV5 hB5 hN5 REL5 hr5 hLl hTl hl0 ht0 d2 d3 d4 d5 d6 d7
  have L6 := ((Grw.refl w5).alloc (.cells ro0.cs.toArray 41)).below
  have N6 := Lib.hid (RoB.new w5 ro0)
  have B6 := belowRow10 L6 w5.heap.size (Nat.le_refl _) r5.cs.toArray
  have V6 := Lib.hid (N6.out.row r5)
  have H6 := Lib.hid (H5.out.later B6)
  have X6 := Lib.hid (B5.out.later B6)
  have C6 := Lib.hid (C5.out.then B6)
  have HS6 : Hid (w4.heap.size ≤ ((w5.alloc (.cells ro0.cs.toArray 41)).setRow w5.heap.size r5.cs.toArray).heap.size) := Lib.hid (Nat.le_trans HS5.out B6.size)
  clear L6 B6 H5 B5 C5
  go_upto_region 5 with (first | (refine store_ro rfl (.tmp 9) (.tmp 32) rfl w5.heap.size r5 rfl rfl N6.out ?_) | fail)
  generalize (w5.alloc (.cells ro0.cs.toArray 41)).setRow w5.heap.size r5.cs.toArray = w6 at *
  clear N6
  have hnE : ¬ E2 (e0 + 2) := fun e => by have := HNF.out _ e; omega
  have hws : W.heap.size ≤ e0 + 2 := by have := HROW.out.2.2; have := HE0.out; omega
  have H7 := Lib.hid (H6.out.box (e0 + 2) r5.cs.toArray hws hnE HR5.out.1 HR5.out.2)
  have C7 := Lib.hid (C6.out.row14 (e0 + 2) r5.cs.toArray (by have := HE0.out; omega))
  clear hnE hws
  go_wp2_with (first | (refine load_ro rfl (.tmp 9) rfl w5.heap.size r5 rfl V6.out ?_) | (refine store_ro rfl (.tmp 6) (.tmp 34) rfl (e0 + 2) r5 rfl rfl X6.out.z ?_))
  (try simp only [Exit.inBlock, Exit.then])
  exact bodyPost_ret (v := .tuple #[.agg r5.cs.toArray, .bool true]) (results_ro2 (p := 6) (u := 7) rfl _ _ (e0 + 2) rfl (X6.out.z.row r5)) rfl ⟨E2, _, r5, LL, TT, rfl, H7.out, HREL5.out, C7.out, fun k hk => by
    rcases HE2.out k hk with e | e
    · exact .inl e
    · exact .inr ⟨e.1, by rw [size_setRow]; have := HS6.out; omega⟩⟩
end Go.Proofs.Ytfocjcdfpnbkjaa
