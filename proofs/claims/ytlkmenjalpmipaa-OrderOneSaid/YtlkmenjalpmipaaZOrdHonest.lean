/- Honest senders' messages: plain facts. -/
import Derived.Test.YtlkmenjalpmipaaZOrdTrim
set_option linter.unusedVariables false
set_option maxRecDepth 100000
set_option linter.unusedSimpArgs false
namespace Go.Proofs.Ytlkmenjalpmipaa
open Go.RowKit Go.Sort Go.Shelf

/-- A sender's messages. -/
def sub (A : List Mg) (p : Nat) : List Mg := A.filter fun x => decide (x.f = (p : Int))
/-- Messages of honest senders. -/
structure Hon (A : List Mg) : Prop where
  self : ∀ x ∈ A, strip x = x
  frm : ∀ x ∈ A, ∃ p : Nat, p < 4 ∧ x.f = (p : Int)
  num : ∀ p, p < 4 → ∀ (i : Nat) (x : Mg), (sub A p)[i]? = some x → x.q = (i : Int) + 1
  ris : ∀ p, p < 4 → (sub A p).Pairwise fun x y => x.s < y.s
  s0 : ∀ x ∈ A, 0 ≤ x.s
  s1 : ∀ x ∈ A, x.s < 18446744073709551616
  few : A.length ≤ 1000
theorem sub_mem {A : List Mg} {p : Nat} {x : Mg} : x ∈ sub A p ↔ x ∈ A ∧ x.f = (p : Int) := by unfold sub; simp
theorem rise_inj {l : List Mg} (h : l.Pairwise fun x y => x.s < y.s) : ∀ x ∈ l, ∀ y ∈ l, x.s = y.s → x = y := by
  induction l with
  | nil => intro x hx; cases hx
  | cons a l ih =>
    obtain ⟨h1, h2⟩ := List.pairwise_cons.1 h
    intro x hx y hy e
    rcases List.mem_cons.1 hx with hx | hx
    · rcases List.mem_cons.1 hy with hy | hy
      · rw [hx, hy]
      · have := h1 y hy; rw [hx] at e; omega
    · rcases List.mem_cons.1 hy with hy | hy
      · have := h1 x hx; rw [hy] at e; omega
      · exact ih h2 x hx y hy e
theorem Hon.inj {A : List Mg} (h : Hon A) {x y : Mg} (hx : x ∈ A) (hy : y ∈ A) (e : x.key = y.key) : x = y := by
  obtain ⟨p, hp, hf⟩ := h.frm x hx
  have e1 : x.f = y.f := congrArg K.p e
  have e2 : x.s = y.s := congrArg K.n e
  exact rise_inj (h.ris p hp) x (sub_mem.2 ⟨hx, hf⟩) y (sub_mem.2 ⟨hy, e1 ▸ hf⟩) e2
/-- Z is A, sorted: each sender's messages stand in their order. -/
theorem srt_sub {A Z : List Mg} (h : Hon A) (hZ : IsSrt Mg.key A Z) (p : Nat) (hp : p < 4) : sub Z p = sub A p := by
  have hs := srt_filter hZ fun x => decide (x.f = (p : Int))
  have h1 : IsSrt Mg.key (sub A p) (sub Z p) := hs
  have h2 : Srt Mg.key (sub A p) := (h.ris p hp).imp_of_mem fun {x y} hx hy hlt => by
    rw [K.less_not]
    exact .inl hlt
  exact IsSrt.one h1 (IsSrt.same h2)
theorem srt_at {Z : List Mg} (h : Srt Mg.key Z) (k : Nat) (z : Mg) (hz : Z[k]? = some z) (y : Mg) (hy : y ∈ Z.drop k) : y.key.less z.key = false := by
  have e : Z.drop k = z :: Z.drop (k + 1) := by
    obtain ⟨h1, h2⟩ := List.getElem?_eq_some_iff.1 hz
    rw [List.drop_eq_getElem_cons h1, h2]
  rw [e] at hy
  have hd : Srt Mg.key (Z.drop k) := h.sublist (List.drop_sublist _ _)
  rw [e] at hd
  rcases List.mem_cons.1 hy with e2 | e2
  · rw [e2]; exact K.less_irrefl _
  · exact (List.pairwise_cons.1 hd).1 y e2
theorem sub_split (Z : List Mg) (k p : Nat) : sub Z p = sub (Z.take k) p ++ sub (Z.drop k) p := by
  unfold sub
  rw [← List.filter_append, List.take_append_drop]
theorem sub_next (Z : List Mg) (k p : Nat) (z : Mg) (hz : Z[k]? = some z) : sub (Z.take (k + 1)) p = sub (Z.take k) p ++ (if z.f = (p : Int) then [z] else []) := by
  unfold sub
  rw [List.take_add_one, hz, List.filter_append]
  congr 1
  by_cases e : z.f = (p : Int)
  · simp [e]
  · simp [e]
/-- The members of the law. -/
def allM (me : Nat) (ms : Nat) : Prop := ∀ p, p < 64 → (ms.testBit p = true ↔ p < 4 ∨ p = me)
def othM (o : Nat) : Prop := ∀ p, p < 64 → (o.testBit p = true ↔ p < 4)
/-- A member that was given the first of each sender's, and delivered the first k of all. -/
structure Fed (A Z : List Mg) (me : Nat) (at_ : Nat → Nat) (k : Nat) (O : Od) : Prop where
  ok : O.ok
  mee : O.me = (me : Int)
  ms : allM me O.ms
  oth : othM O.H.oth
  lo : ∀ p, p < 64 → O.S.lo p = 0
  R : ∀ p, p < 4 → O.S.R p = (sub A p).take (at_ p)
  R0 : ∀ p, p < 64 → 4 ≤ p → O.S.R p = []
  dn : ∀ p, p < 4 → O.dn p = (sub (Z.take k) p).length
  le : ∀ p, p < 4 → at_ p ≤ (sub A p).length
  late : ∀ p, p < 4 → ∀ x ∈ (sub A p).drop (at_ p), (((O.H.mks p).hd : Nat) : Int) < x.s
section
variable {A Z : List Mg} {me : Nat} {at_ : Nat → Nat} {k : Nat} {O : Od}
theorem Fed.next (h : Fed A Z me at_ k O) (hA : Hon A) (hZ : IsSrt Mg.key A Z) (m4 : 4 ≤ me) {m : Mg} {O' : Od} (hn : nextO O = some (m, O')) : Z[k]? = some m ∧ Fed A Z me at_ (k + 1) O' := by
  obtain ⟨hb, hm, hr, rfl⟩ := nextO_is hn
  obtain ⟨p, hp64, hpb, hmf, hmq, hmd, hmR⟩ := head_is h.ok hm
  have hp : p < 4 := by
    rcases (h.ms p hp64).1 hpb with e | e
    · exact e
    · rcases Nat.lt_or_ge p 4 with e2 | e2
      · exact e2
      · rw [h.R0 p hp64 e2] at hmR; simp at hmR
  rw [h.lo p hp64, Nat.sub_zero, h.R p hp, List.getElem?_take] at hmR
  have hlt : O.dn p < at_ p := by
    split at hmR
    · assumption
    · cases hmR
  rw [if_pos hlt, ← srt_sub hA hZ p hp, sub_split Z k p, h.dn p hp, List.getElem?_append_right (Nat.le_refl _), Nat.sub_self] at hmR
  have hmd2 : m ∈ Z.drop k := (sub_mem.1 (List.mem_of_getElem? hmR)).1
  have hkl : k < Z.length := by
    rcases Nat.lt_or_ge k Z.length with e | e
    · exact e
    · rw [List.drop_eq_nil_of_le e] at hmd2; cases hmd2
  obtain ⟨z, hz⟩ : ∃ z, Z[k]? = some z := ⟨_, List.getElem?_eq_getElem hkl⟩
  have hzA : z ∈ A := (hZ.fil.mem z).1 (List.mem_of_getElem? hz)
  have hmA : m ∈ A := (hZ.fil.mem m).1 (List.mem_of_mem_drop hmd2)
  have h1 := srt_at hZ.srt k z hz m hmd2
  obtain ⟨p', hp', hzf⟩ := hA.frm z hzA
  have hz2 : (sub (Z.drop k) p')[0]? = some z := by
    obtain ⟨q1, q2⟩ := List.getElem?_eq_some_iff.1 hz
    rw [List.drop_eq_getElem_cons q1, q2]
    unfold sub
    rw [List.filter_cons_of_pos (by simp [hzf])]
    rfl
  have hz3 : (sub A p')[O.dn p']? = some z := by
    rw [← srt_sub hA hZ p' hp', sub_split Z k p', h.dn p' hp', List.getElem?_append_right (Nat.le_refl _), Nat.sub_self]
    exact hz2
  have hmz : m = z := by
    by_cases hc : O.dn p' < at_ p'
    · have hzh : z ∈ headsO O := headsO_of (p := p') (by omega) ((h.ms p' (by omega)).2 (.inl hp')) (by
        rw [h.lo p' (by omega), Nat.sub_zero, h.R p' hp', List.getElem?_take, if_pos hc]; exact hz3)
      have h2 := (bestK_all _ _ _ hb).1 z hzh
      exact hA.inj hmA hzA (K.eq_of h1 h2)
    · exfalso
      have hzl : z ∈ (sub A p').drop (at_ p') := by
        refine List.mem_of_getElem? (i := O.dn p' - at_ p') ?_
        rw [List.getElem?_drop, show at_ p' + (O.dn p' - at_ p') = O.dn p' by omega]
        exact hz3
      have h2 := h.late p' hp' z hzl
      have h3 : allN O.H ≤ (O.H.mks p').hd := leastN_of _ _ _ p' (by omega) ((h.oth p' (by omega)).2 hp')
      have h4 : m.s ≤ (allN O.H : Int) := by
        unfold ripeO at hr
        split at hr
        · have := of_decide_eq_true hr
          have := safeN_le O.H
          omega
        · exact of_decide_eq_true hr
      have h5 : m.key.less z.key = true := (K.less_iff _ _).2 (.inl (show m.s < z.s by omega))
      rw [h1] at h5; cases h5
  subst hmz
  refine ⟨hz, ⟨del_ok h.ok hm, h.mee, h.ms, h.oth, h.lo, h.R, h.R0, fun q hq => ?_, h.le, h.late⟩⟩
  have e : m.f.toNat = p := by omega
  show updF O.dn m.f.toNat (O.dn m.f.toNat + 1) q = _
  rw [e, sub_next Z k q m hz, List.length_append]
  by_cases e2 : q = p
  · subst e2
    rw [updF_same, if_pos hmf, h.dn q hq]; rfl
  · rw [updF_other _ _ _ _ e2, if_neg (by omega), h.dn q hq]; rfl
theorem Fed.drains (h : Fed A Z me at_ k O) (hA : Hon A) (hZ : IsSrt Mg.key A Z) (m4 : 4 ≤ me) {l : List Mg} {P : Od} (hd : Drains O l P) : Z.take (k + l.length) = Z.take k ++ l ∧ Fed A Z me at_ (k + l.length) P ∧ nextO P = none := by
  induction hd generalizing k with
  | stop hn => exact ⟨by simp, h, hn⟩
  | more hn _ ih =>
    obtain ⟨h1, h2⟩ := h.next hA hZ m4 hn
    obtain ⟨h3, h4, h5⟩ := ih h2
    rename_i m l _
    have e : k + (m :: l).length = k + 1 + l.length := by simp; omega
    rw [e]
    refine ⟨?_, h4, h5⟩
    rw [h3, List.take_add_one, h1]
    simp
/-- And nothing was promised yet. -/
structure Fed1 (A Z : List Mg) (me : Nat) (at_ : Nat → Nat) (k : Nat) (O : Od) : Prop where
  fed : Fed A Z me at_ k O
  wait : O.H.wait = []
  cm : ∀ q, q < 4 → (O.H.mks q).cm = at_ q
theorem Fed1.drains (h : Fed1 A Z me at_ k O) (hA : Hon A) (hZ : IsSrt Mg.key A Z) (m4 : 4 ≤ me) {l : List Mg} {P : Od} (hd : Drains O l P) : Z.take (k + l.length) = Z.take k ++ l ∧ Fed1 A Z me at_ (k + l.length) P := by
  obtain ⟨h1, h2, _⟩ := h.fed.drains hA hZ m4 hd
  obtain ⟨_, e, _, _⟩ := hd.same
  exact ⟨h1, h2, by rw [e]; exact h.wait, by rw [e]; exact h.cm⟩
theorem came_one {H : Hz} {p : Nat} (hp : p < 64) (ho : othZ H (p : Int) = true) (hw : H.wait = []) (q s : Nat) : (cameZ H (p : Int) q s).oth = H.oth ∧ (cameZ H (p : Int) q s).wait = [] ∧ (cameZ H (p : Int) q s).mks = updM H.mks p ⟨max (H.mks p).hd s, (H.mks p).rc, q⟩ := by
  rw [cameZ_yes ho, Int.toNat_natCast]
  refine ⟨rfl, ?_, ?_⟩
  · show (H.wait.filter _) = []
    rw [hw]; rfl
  · show updM (updM H.mks p ⟨max (H.mks p).hd s, (H.mks p).rc, q⟩) p { updM H.mks p ⟨max (H.mks p).hd s, (H.mks p).rc, q⟩ p with hd := nowH (markZ (seeZ H s) p ⟨max (H.mks p).hd s, (H.mks p).rc, q⟩) p } = _
    have e : nowH (markZ (seeZ H s) p ⟨max (H.mks p).hd s, (H.mks p).rc, q⟩) p = max (H.mks p).hd s := by
      unfold nowH
      show heardL (p : Int) (updM H.mks p ⟨max (H.mks p).hd s, (H.mks p).rc, q⟩ p).cm H.wait (updM H.mks p ⟨max (H.mks p).hd s, (H.mks p).rc, q⟩ p).hd = _
      rw [hw, updM_at]; rfl
    rw [e, updM_at, updM_twice]
theorem oth_yes {H : Hz} (h : othM H.oth) (p : Nat) (hp : p < 4) : othZ H (p : Int) = true := (othZ_iff H p).2 ⟨⟨by omega, by omega⟩, by rw [Int.toNat_natCast]; exact (h p (by omega)).2 hp⟩
/-- The next one of p's comes. -/
theorem Fed1.give (h : Fed1 A Z me at_ k O) (hA : Hon A) (m4 : 4 ≤ me) (p : Nat) (hp : p < 4) {m : Mg} (hm : (sub A p)[at_ p]? = some m) : Fed1 A Z me (updF at_ p (at_ p + 1)) k (takeO O m) ∧ m.okS ∧ takeCode O m = 0 := by
  have hmA := sub_mem.1 (List.mem_of_getElem? hm)
  have hmq := hA.num p hp _ _ hm
  have hs0 := hA.s0 m hmA.1
  have hs1 := hA.s1 m hmA.1
  have hfed := h.fed
  have hlen := (List.getElem?_eq_some_iff.1 hm).1
  have hfew : (sub A p).length ≤ 1000 := Nat.le_trans (List.length_filter_le _ _) hA.few
  have hM : mem O.ms m.f = true := by
    rw [hmA.2, mem_nat _ _ (by omega)]
    exact (hfed.ms p (by omega)).2 (.inl hp)
  have hcnt : O.S.cnt p = at_ p := by
    unfold Hs.cnt
    rw [hfed.lo p (by omega), hfed.R p hp, List.length_take]
    omega
  have hc : putCode O.S m = 0 := by
    unfold putCode
    rw [if_pos (by omega), show m.f.toNat = p by omega, hcnt, if_pos hmq]
  have hokS : m.okS := ⟨by omega, by omega, by omega, by omega, hs0, hs1⟩
  obtain ⟨k2, hf2, hk2, hq2, hS⟩ := put_code hc
  have hkp : k2 = p := by omega
  subst hkp
  obtain ⟨e1, e2, e3⟩ := came_one (by omega) (oth_yes hfed.oth k2 hp) h.wait m.q.toNat m.s.toNat
  have hH : (takeO O m).H = cameZ O.H (k2 : Int) m.q.toNat m.s.toNat := by
    rw [(takeO_ok hM hc).1]
    show (if m.f = O.me then seeZ O.H m.s.toNat else cameZ O.H m.f m.q.toNat m.s.toNat) = _
    rw [if_neg (by have := hfed.mee; omega), hf2]
  have hSS : (takeO O m).S = ⟨O.S.lo, updF O.S.R k2 (O.S.R k2 ++ [strip m])⟩ := by
    rw [(takeO_ok hM hc).1]; exact hS
  have hsame : (takeO O m).me = O.me ∧ (takeO O m).ms = O.ms ∧ (takeO O m).dn = O.dn := by
    rw [(takeO_ok hM hc).1]; exact ⟨rfl, rfl, rfl⟩
  have hdrop : (sub A k2).drop (at_ k2) = m :: (sub A k2).drop (at_ k2 + 1) := by
    obtain ⟨q1, q2⟩ := List.getElem?_eq_some_iff.1 hm
    rw [List.drop_eq_getElem_cons q1, q2]
  refine ⟨⟨⟨take_ok hfed.ok hokS, by rw [hsame.1]; exact hfed.mee, by rw [hsame.2.1]; exact hfed.ms, by rw [hH, e1]; exact hfed.oth, fun q hq => by rw [hSS]; exact hfed.lo q hq, fun q hq => ?_, fun q hq h4 => ?_, fun q hq => by rw [hsame.2.2]; exact hfed.dn q hq, fun q hq => ?_, fun q hq x hx => ?_⟩, by rw [hH]; exact e2, fun q hq => ?_⟩, hokS, (takeO_ok hM hc).2⟩
  · rw [hSS]
    show updF O.S.R k2 (O.S.R k2 ++ [strip m]) q = _
    by_cases e : q = k2
    · subst e
      rw [updF_same, updF_same, hfed.R q hq, hA.self m hmA.1, List.take_add_one, hm]; rfl
    · rw [updF_other _ _ _ _ e, updF_other _ _ _ _ e]; exact hfed.R q hq
  · rw [hSS]
    show updF O.S.R k2 (O.S.R k2 ++ [strip m]) q = _
    rw [updF_other _ _ _ _ (by omega)]; exact hfed.R0 q hq h4
  · by_cases e : q = k2
    · subst e; rw [updF_same]; omega
    · rw [updF_other _ _ _ _ e]; exact hfed.le q hq
  · rw [hH, e3]
    by_cases e : q = k2
    · subst e
      rw [updF_same] at hx
      rw [updM_at]
      have h1 := hfed.late q hq x (by rw [hdrop]; exact List.mem_cons_of_mem _ hx)
      have h2 : m.s < x.s := by
        have h3 := (hA.ris q hq).sublist (List.drop_sublist (at_ q) _)
        rw [hdrop] at h3
        exact (List.pairwise_cons.1 h3).1 x hx
      show ((max (O.H.mks q).hd m.s.toNat : Nat) : Int) < x.s
      omega
    · rw [updF_other _ _ _ _ e] at hx
      rw [updM_other _ _ _ _ e]
      exact hfed.late q hq x hx
  · rw [hH, e3]
    by_cases e : q = k2
    · subst e
      rw [updM_at, updF_same]
      show m.q.toNat = _
      omega
    · rw [updM_other _ _ _ _ e, updF_other _ _ _ _ e]; exact h.cm q hq
theorem zeroG_okS : zeroG.okS := ⟨by decide, by decide, by decide, by decide, by decide, by decide⟩
/-- All were given; those below i promised the last stamp, and reached it. -/
structure Fed2 (A Z : List Mg) (me : Nat) (k : Nat) (L i : Nat) (O : Od) : Prop where
  fed : Fed A Z me (fun q => (sub A q).length) k O
  wait : O.H.wait = []
  cm : ∀ q, q < 4 → (O.H.mks q).cm = (sub A q).length
  up : ∀ q, q < i → L ≤ (O.H.mks q).hd ∧ L ≤ (O.H.mks q).rc
theorem Fed1.all (h : Fed1 A Z me at_ k O) (hat : ∀ q, q < 4 → at_ q = (sub A q).length) (L : Nat) : Fed2 A Z me k L 0 O := by
  have h0 := h.fed
  refine ⟨⟨h0.ok, h0.mee, h0.ms, h0.oth, h0.lo, fun p hp => by rw [← hat p hp]; exact h0.R p hp, h0.R0, h0.dn, fun p hp => Nat.le_refl _, fun p hp x hx => ?_⟩, h.wait, fun q hq => by rw [← hat q hq]; exact h.cm q hq, fun q hq => absurd hq (Nat.not_lt_zero _)⟩
  rw [List.drop_length] at hx; cases hx
theorem prom_one {H : Hz} {p : Nat} (hp : p < 64) (ho : othZ H (p : Int) = true) (hw : H.wait = []) (st sn : Nat) (hsn : sn ≤ (H.mks p).cm) : (promZ H (p : Int) st sn).oth = H.oth ∧ (promZ H (p : Int) st sn).wait = [] ∧ (promZ H (p : Int) st sn).mks = updM H.mks p ⟨max (H.mks p).hd st, (H.mks p).rc, (H.mks p).cm⟩ := by
  rw [promZ_yes ho, Int.toNat_natCast]
  have hwl : waitL H.wait ⟨(p : Int), st, sn⟩ = [⟨(p : Int), st, sn⟩] := by rw [hw]; rfl
  have hh : hits (p : Int) (H.mks p).cm ⟨(p : Int), st, sn⟩ = true := by unfold hits; simp [hsn]
  have e : nowH { seeZ H st with wait := waitL H.wait ⟨(p : Int), st, sn⟩ } p = max (H.mks p).hd st := by
    unfold nowH
    show heardL (p : Int) (H.mks p).cm (waitL H.wait ⟨(p : Int), st, sn⟩) (H.mks p).hd = _
    rw [hwl]
    show (if hits (p : Int) (H.mks p).cm ⟨(p : Int), st, sn⟩ then max (H.mks p).hd st else (H.mks p).hd) = _
    rw [hh]; rfl
  refine ⟨rfl, ?_, ?_⟩
  · show (waitL H.wait ⟨(p : Int), st, sn⟩).filter (fun a => !doneP (p : Int) (nowH { seeZ H st with wait := waitL H.wait ⟨(p : Int), st, sn⟩ } p) a) = []
    rw [e, hwl]
    have : doneP (p : Int) (max (H.mks p).hd st) ⟨(p : Int), st, sn⟩ = true := by
      unfold doneP
      simp
      omega
    simp [this]
  · show updM H.mks p { H.mks p with hd := nowH { seeZ H st with wait := waitL H.wait ⟨(p : Int), st, sn⟩ } p } = _
    rw [e]
theorem Fed2.step {L i : Nat} (h : Fed2 A Z me k L i O) (hi : i < 4) (hL : L < 18446744073709551616) (hn : (sub A i).length < 4294967296) : Fed2 A Z me k L (i + 1) (reachO (promO O (i : Int) L (sub A i).length) (i : Int) L) := by
  have h0 := h.fed
  obtain ⟨e1, e2, e3⟩ := prom_one (H := O.H) (p := i) (by omega) (oth_yes h0.oth i hi) h.wait L (sub A i).length (by rw [h.cm i hi]; exact Nat.le_refl _)
  have ho : othZ (promZ O.H (i : Int) L (sub A i).length) (i : Int) = true := oth_yes (by rw [e1]; exact h0.oth) i hi
  have hR : reachZ (promZ O.H (i : Int) L (sub A i).length) (i : Int) L = markZ (promZ O.H (i : Int) L (sub A i).length) i ⟨((promZ O.H (i : Int) L (sub A i).length).mks i).hd, max ((promZ O.H (i : Int) L (sub A i).length).mks i).rc L, ((promZ O.H (i : Int) L (sub A i).length).mks i).cm⟩ := by
    rw [reachZ_yes ho, Int.toNat_natCast]
  have hm : (reachZ (promZ O.H (i : Int) L (sub A i).length) (i : Int) L).mks = updM O.H.mks i ⟨max (O.H.mks i).hd L, max (O.H.mks i).rc L, (O.H.mks i).cm⟩ := by
    rw [hR]
    show updM (promZ O.H (i : Int) L (sub A i).length).mks i _ = _
    rw [e3, updM_at, updM_twice]
  have hok : (reachO (promO O (i : Int) L (sub A i).length) (i : Int) L).ok := by
    have k1 := step_okO (a := ⟨1, (i : Int), zeroG, (sub A i).length, L⟩) h0.ok ⟨show (-9223372036854775808 : Int) ≤ (i : Int) by omega, show (i : Int) ≤ 9223372036854775807 by omega, hn, hL, zeroG_okS⟩
    rw [stepO_1 rfl] at k1
    have k2 := step_okO (a := ⟨2, (i : Int), zeroG, 0, L⟩) k1 ⟨show (-9223372036854775808 : Int) ≤ (i : Int) by omega, show (i : Int) ≤ 9223372036854775807 by omega, show 0 < 4294967296 by decide, hL, zeroG_okS⟩
    rw [stepO_2 rfl] at k2
    exact k2
  refine ⟨⟨hok, h0.mee, h0.ms, ?_, h0.lo, h0.R, h0.R0, h0.dn, h0.le, fun p hp x hx => ?_⟩, ?_, fun q hq => ?_, fun q hq => ?_⟩
  · show othM (reachZ (promZ O.H (i : Int) L (sub A i).length) (i : Int) L).oth
    rw [hR]
    show othM (promZ O.H (i : Int) L (sub A i).length).oth
    rw [e1]; exact h0.oth
  · rw [List.drop_length] at hx; cases hx
  · show (reachZ (promZ O.H (i : Int) L (sub A i).length) (i : Int) L).wait = []
    rw [hR]; exact e2
  · show ((reachZ (promZ O.H (i : Int) L (sub A i).length) (i : Int) L).mks q).cm = _
    rw [hm]
    by_cases e : q = i
    · subst e; rw [updM_at]; exact h.cm q hq
    · rw [updM_other _ _ _ _ e]; exact h.cm q hq
  · show L ≤ ((reachZ (promZ O.H (i : Int) L (sub A i).length) (i : Int) L).mks q).hd ∧ L ≤ ((reachZ (promZ O.H (i : Int) L (sub A i).length) (i : Int) L).mks q).rc
    rw [hm]
    by_cases e : q = i
    · subst e; rw [updM_at]; exact ⟨Nat.le_max_right _ _, Nat.le_max_right _ _⟩
    · rw [updM_other _ _ _ _ e]; exact h.up q (by omega)
/-- All is delivered at the end. -/
theorem Fed2.end_ {L : Nat} (h : Fed2 A Z me k L 4 O) (hA : Hon A) (hZ : IsSrt Mg.key A Z) (m4 : 4 ≤ me) (hL : L < 18446744073709551616) (hAL : ∀ x ∈ A, x.s ≤ (L : Int)) {l : List Mg} {P : Od} (hd : Drains (seeO O L) l P) : Z.take k ++ l = Z := by
  have h0 := h.fed
  have hsee : Fed A Z me (fun q => (sub A q).length) k (seeO O L) :=
    ⟨h0.ok.withH (ok_see h0.ok.hz hL), h0.mee, h0.ms, h0.oth, h0.lo, h0.R, h0.R0, h0.dn, h0.le, h0.late⟩
  obtain ⟨h1, h2, h3⟩ := hsee.drains hA hZ m4 hd
  obtain ⟨_, eH, _, _⟩ := hd.same
  have hall : L ≤ allN P.H := by
    rw [eH]
    refine leastN_ge _ _ _ _ (Nat.le_max_right _ _) fun p hp hb => ?_
    exact (h.up p ((h0.oth p hp).1 hb)).1
  have hsafe : L ≤ safeN P.H := by
    have h4 := hall
    rw [eH] at h4 ⊢
    refine leastN_ge _ _ _ _ h4 fun p hp hb => ?_
    exact (h.up p ((h0.oth p hp).1 hb)).2
  rw [← h1]
  refine List.take_of_length_le ?_
  rcases Nat.lt_or_ge (k + l.length) Z.length with hlt | hge
  · exfalso
    obtain ⟨z, hz⟩ : ∃ z, Z[k + l.length]? = some z := ⟨_, List.getElem?_eq_getElem hlt⟩
    have hzA : z ∈ A := (hZ.fil.mem z).1 (List.mem_of_getElem? hz)
    obtain ⟨p, hp, hzf⟩ := hA.frm z hzA
    have hz2 : (sub (Z.drop (k + l.length)) p)[0]? = some z := by
      obtain ⟨q1, q2⟩ := List.getElem?_eq_some_iff.1 hz
      rw [List.drop_eq_getElem_cons q1, q2]
      unfold sub
      rw [List.filter_cons_of_pos (by simp [hzf])]
      rfl
    have hz3 : (sub A p)[P.dn p]? = some z := by
      rw [← srt_sub hA hZ p hp, sub_split Z (k + l.length) p, h2.dn p hp, List.getElem?_append_right (Nat.le_refl _), Nat.sub_self]
      exact hz2
    have hlp := (List.getElem?_eq_some_iff.1 hz3).1
    have hzh : z ∈ headsO P := headsO_of (p := p) (by omega) ((h2.ms p (by omega)).2 (.inl hp)) (by
      rw [h2.lo p (by omega), Nat.sub_zero, h2.R p hp, List.getElem?_take, if_pos hlp]; exact hz3)
    cases hb : bestK (headsO P) none with
    | none => rw [bestK_none hb] at hzh; cases hzh
    | some m =>
      have hm : m ∈ headsO P := by
        rcases bestK_mem _ _ _ hb with e | e
        · exact e
        · cases e
      obtain ⟨p2, hp2, hpb2, hf2, _, _, hR2⟩ := head_is h2.ok hm
      have hp24 : p2 < 4 := by
        rcases (h2.ms p2 hp2).1 hpb2 with e | e
        · exact e
        · rcases Nat.lt_or_ge p2 4 with e2 | e2
          · exact e2
          · rw [h2.R0 p2 hp2 e2] at hR2; simp at hR2
      have hmA : m ∈ A := by
        have := List.mem_of_getElem? hR2
        rw [h2.R p2 hp24] at this
        exact (sub_mem.1 (List.mem_of_mem_take this)).1
      have hms := hAL m hmA
      rw [nextO_best hb] at h3
      have hr : ripeO P m = true := by
        unfold ripeO
        split
        · exact decide_eq_true (by omega)
        · exact decide_eq_true (by omega)
      rw [hr] at h3
      cases h3
  · exact hge
end
end Go.Proofs.Ytlkmenjalpmipaa
