/- The program's order and the document's tell the same. Plain facts. -/
import Derived.Test.YtfocjcdfpnbkjaaZRoNext
import Derived.Test.YtfocjcdfpnbkjaaZHpMath
import Derived.Test.YtfocjcdfpnbkjaaZRoTake
set_option linter.unusedVariables false
set_option maxRecDepth 100000
set_option linter.unusedSimpArgs false
namespace Go.Proofs.Ytfocjcdfpnbkjaa
open Go.RowKit Go.Sort Go.Shelf

theorem pickR_none (b : Option (Nat × Mg)) (k : Nat) (c : Bool) : pickR b k none c = b := rfl
theorem pickR_yes {b : Option (Nat × Mg)} {k : Nat} {m : Mg} (h : ∀ x, b = some x → m.key.less x.2.key = true) : pickR b k (some m) true = some (k, m) := if_pos ⟨rfl, h⟩
theorem pickR_no {x : Nat × Mg} {k : Nat} {m : Mg} (h : m.key.less x.2.key = false) : pickR (some x) k (some m) true = some x := if_neg fun e => Bool.noConfusion ((e.2 _ rfl).symm.trans h)
theorem pickR_off (b : Option (Nat × Mg)) (k : Nat) (o : Option Mg) : pickR b k o false = b := by
  cases o with
  | none => rfl
  | some m => unfold pickR; simp
structure ORel (O : Od) (r : Ro) (L : List Mg) (T : List Td) : Prop where
  ok : O.ok
  me : O.me = r.me
  ms : O.ms = r.ms
  P : PRel O.S L r.lo
  Z : ZRel O.H T
  clk : O.H.clock = r.clk
  oth : O.H.oth = r.oth
  dn : O.dn = r.dn
  last : O.last = r.last
  cmd : ∀ p : Nat, p < 64 → cameD (p : Int) T ≤ O.S.cnt p
  nom : ∀ p : Nat, p < 64 → O.ms.testBit p = false → O.S.cnt p = 0
section
variable {O : Od} {r : Ro} {L : List Mg} {T : List Td}
theorem ORel.head (h : ORel O r L T) (k : Nat) (hk : k < 64) : hdO O k = ((findA L r.lo (k : Int) (r.dn k + 1)).map strip).toList := by
  have h1 := h.P.get (k : Int) (r.dn k + 1)
  rw [onP_yes _ _ _ hk, onP_yes _ _ _ hk] at h1
  rw [← h1, hdO_eq, h.dn]
  have h2 := h.ok.lo k hk
  rw [h.dn] at h2
  unfold getX
  rw [if_pos (by omega), show r.dn k + 1 - O.S.lo k - 1 = r.dn k - O.S.lo k by omega]
theorem ORel.best (h : ORel O r L T) : ∀ k, k ≤ 64 → (bestR r L k).map (fun x => strip x.2) = bestK (headsK O ((List.range k).filter O.ms.testBit)) none
  | 0, _ => rfl
  | k + 1, hk => by
    have ih := h.best k (by omega)
    rw [lst_take _ _ (by omega)]
    unfold headsK at *
    rw [List.flatMap_append, bestK_app, ← ih]
    show (pickR (bestR r L k) k (findA L r.lo (k : Int) (r.dn k + 1)) (r.ms.testBit k)).map _ = _
    have hh := h.head k (by omega)
    rw [← h.ms]
    cases hb : O.ms.testBit k with
    | false =>
      rw [if_neg (by decide), pickR_off]
      rfl
    | true =>
      rw [if_pos rfl]
      show _ = bestK (hdO O k ++ []) _
      rw [List.append_nil, hh]
      cases findA L r.lo (k : Int) (r.dn k + 1) with
      | none => rw [pickR_none]; rfl
      | some m =>
        cases hbo : bestR r L k with
        | none => rw [pickR_yes fun x hx => by cases hx]; rfl
        | some x =>
          show _ = (if (strip m).key.less (strip x.2).key then some (strip m) else some (strip x.2))
          cases hl : m.key.less x.2.key with
          | true => rw [pickR_yes fun y hy => by cases hy; exact hl, show (strip m).key.less (strip x.2).key = true from hl]; rfl
          | false => rw [pickR_no hl, show (strip m).key.less (strip x.2).key = false from hl]; rfl
theorem ORel.bestO (h : ORel O r L T) : (bestR r L allZ).map (fun x => strip x.2) = bestK (headsO O) none := by
  have := h.best allZ (Nat.le_of_eq allZ_eq)
  rw [this, allZ_eq]; rfl
theorem ORel.ripe (h : ORel O r L T) (m : Mg) : ripeO O (strip m) = true ↔ ripeR r T m := by
  have h1 := h.Z.all
  have h2 := h.Z.safe
  have h3 := safeN_le O.H
  rw [h.clk, h.oth] at h1 h2
  unfold ripeO ripeR
  rw [← h1, ← h2]
  show (if m.v = 2 then decide (m.s ≤ (safeN O.H : Int)) else decide (m.s ≤ (allN O.H : Int))) = true ↔ _
  by_cases hv : m.v = 2
  · rw [if_pos hv]
    simp only [decide_eq_true_eq]
    constructor
    · intro e; exact ⟨by omega, fun e2 => by omega⟩
    · rintro ⟨e1, e2⟩
      have : ¬ (safeN O.H : Int) < m.s := fun e => e2 ⟨hv, e⟩
      omega
  · rw [if_neg hv]
    simp only [decide_eq_true_eq]
    constructor
    · intro e; exact ⟨by omega, fun e2 => hv e2.1⟩
    · rintro ⟨e1, e2⟩; omega
theorem ORel.next_no (h : ORel O r L T) (hn : ∀ p m, bestR r L allZ = some (p, m) → ¬ ripeR r T m) : nextO O = none := by
  have hb := h.bestO
  cases hbo : bestR r L allZ with
  | none =>
    rw [hbo] at hb
    unfold nextO
    rw [← hb]; rfl
  | some x =>
    rw [hbo] at hb
    rw [nextO_best hb.symm, if_neg]
    intro e
    exact hn x.1 x.2 hbo ((h.ripe x.2).1 e)
theorem ORel.next_yes (h : ORel O r L T) {p : Nat} {m : Mg} (hbo : bestR r L allZ = some (p, m)) (hr : ripeR r T m) : ∃ P, nextO O = some (strip m, P) ∧ ORel P (tookR r p m) L T := by
  have hb := h.bestO
  rw [hbo] at hb
  have hb2 : bestK (headsO O) none = some (strip m) := hb.symm
  have hn : nextO O = some (strip m, delO O (strip m)) := by rw [nextO_best hb2, if_pos ((h.ripe m).2 hr)]
  have hmem : strip m ∈ headsO O := by
    rcases bestK_mem _ _ _ hb2 with e | e
    · exact e
    · cases e
  have hp : m.f.toNat = p := by
    have key : ∀ k, bestR r L k = some (p, m) → m.f = (p : Int) := by
      intro k
      induction k with
      | zero => intro e; cases e
      | succ k ih =>
        intro e
        change pickR (bestR r L k) k (findA L r.lo (k : Int) (r.dn k + 1)) (r.ms.testBit k) = some (p, m) at e
        cases hf : findA L r.lo (k : Int) (r.dn k + 1) with
        | none => rw [hf, pickR_none] at e; exact ih e
        | some x =>
          rw [hf] at e
          unfold pickR at e
          simp only at e
          split at e
          · cases e
            have := List.find?_some hf
            unfold isA at this
            simp at this
            exact this.1
          · exact ih e
    have := key allZ hbo
    omega
  refine ⟨_, hn, ⟨del_ok h.ok hmem, h.me, h.ms, h.P, h.Z, h.clk, h.oth, ?_, rfl, h.cmd, h.nom⟩⟩
  show updF O.dn (strip m).f.toNat (O.dn (strip m).f.toNat + 1) = updF r.dn p (r.dn p + 1)
  rw [show (strip m).f.toNat = p from hp, h.dn]
theorem ORel.othI (h : ORel O r L T) (p : Int) : othZ O.H p = mem r.oth p := by unfold othZ; rw [h.oth]
theorem came_oth {H : Hz} (p : Int) (q s : Nat) : (cameZ H p q s).oth = H.oth := by unfold cameZ; split <;> rfl
theorem prom_oth {H : Hz} (p : Int) (q s : Nat) : (promZ H p q s).oth = H.oth := by unfold promZ; split <;> rfl
theorem reach_oth {H : Hz} (p : Int) (s : Nat) : (reachZ H p s).oth = H.oth := by unfold reachZ; split <;> rfl
theorem come_clk {H : Hz} (p : Int) (q s : Nat) : (cameZ H p q s).clock = if othZ H p then max H.clock s else H.clock := by unfold cameZ; split <;> rfl
theorem prom_clk {H : Hz} (p : Int) (s q : Nat) : (promZ H p s q).clock = if othZ H p then max H.clock s else H.clock := by unfold promZ; split <;> rfl
theorem reach_clk {H : Hz} (p : Int) (s : Nat) : (reachZ H p s).clock = H.clock := by unfold reachZ; split <;> rfl
theorem mem_is {a : Nat} {p : Int} (h : mem a p = true) : ∃ k : Nat, p = (k : Int) ∧ k < 64 ∧ a.testBit k = true := by
  unfold mem at h
  simp at h
  obtain ⟨k, rfl⟩ := Int.eq_ofNat_of_zero_le h.1.1
  exact ⟨k, rfl, by omega, by simpa using h.2⟩
/-- A promise. -/
theorem ORel.prom (h : ORel O r L T) (p : Int) (s q : Nat) (hq : q < 4294967296) (hs : s < 18446744073709551616) (hok : (promO O p s q).ok) (u : Sl) :
    ORel (promO O p s q) { r with zs := u, clk := if mem r.oth p then max r.clk s else r.clk } L (if mem r.oth p then T ++ [⟨1, p, q, s⟩] else T) := by
  have ho := h.othI p
  refine ⟨hok, h.me, h.ms, h.P, ?_, ?_, ?_, h.dn, h.last, fun k hk => ?_, h.nom⟩
  · show ZRel (promZ O.H p s q) _
    cases hm : mem r.oth p with
    | false => rw [hm] at ho; rw [promZ_no ho]; exact h.Z
    | true =>
      obtain ⟨k, rfl, hk, hb⟩ := mem_is hm
      exact h.Z.prom k hk (by rw [h.oth]; exact hb) s q hq hs
  · show (promZ O.H p s q).clock = _
    rw [prom_clk, ho, h.clk]
  · show (promZ O.H p s q).oth = _
    rw [prom_oth]; exact h.oth
  · show cameD (k : Int) (if mem r.oth p then T ++ [⟨1, p, q, s⟩] else T) ≤ O.S.cnt k
    split
    · rw [cameD_other fun e => absurd (show (1 : Int) = 0 from e.2) (by decide)]; exact h.cmd k hk
    · exact h.cmd k hk
/-- All was reached. -/
theorem ORel.reach (h : ORel O r L T) (p : Int) (s : Nat) (hs : s < 18446744073709551616) (hok : (reachO O p s).ok) (u : Sl) :
    ORel (reachO O p s) { r with zs := u } L (if mem r.oth p then T ++ [⟨2, p, 0, s⟩] else T) := by
  have ho := h.othI p
  refine ⟨hok, h.me, h.ms, h.P, ?_, ?_, ?_, h.dn, h.last, fun k hk => ?_, h.nom⟩
  · show ZRel (reachZ O.H p s) _
    cases hm : mem r.oth p with
    | false => rw [hm] at ho; rw [reachZ_no ho]; exact h.Z
    | true =>
      obtain ⟨k, rfl, hk, hb⟩ := mem_is hm
      exact h.Z.reach k hk (by rw [h.oth]; exact hb) s hs
  · show (reachZ O.H p s).clock = _
    rw [reach_clk, h.clk]
  · show (reachZ O.H p s).oth = _
    rw [reach_oth]; exact h.oth
  · show cameD (k : Int) (if mem r.oth p then T ++ [⟨2, p, 0, s⟩] else T) ≤ O.S.cnt k
    split
    · rw [cameD_other fun e => absurd (show (2 : Int) = 0 from e.2) (by decide)]; exact h.cmd k hk
    · exact h.cmd k hk
/-- A trim. -/
theorem ORel.trim (h : ORel O r L T) (p : Int) (upto : Nat) : ORel (trimO O p upto) (trimR r L p upto) L T := by
  unfold trimO
  cases hm : mem O.ms p with
  | true =>
    obtain ⟨k, rfl, hk, hb⟩ := mem_is hm
    have hok := trim_ok h.ok (k : Int) upto
    unfold trimO at hok
    rw [hm, if_pos rfl] at hok
    rw [if_pos rfl]
    unfold trimR
    rw [if_pos ⟨by omega, by omega⟩, Int.toNat_natCast, h.dn]
    rw [Int.toNat_natCast, h.dn] at hok
    refine ⟨hok, h.me, h.ms, h.P.drop (k : Int) _, h.Z, h.clk, h.oth, rfl, h.last, fun q hq => ?_, fun q hq hn => ?_⟩
    · show _ ≤ (dropS O.S (k : Int) _).cnt q
      rw [drop_cnt]; exact h.cmd q hq
    · show (dropS O.S (k : Int) _).cnt q = 0
      rw [drop_cnt]; exact h.nom q hq hn
  | false =>
    rw [if_neg (by decide)]
    unfold trimR
    split
    · rename_i hp
      obtain ⟨k, rfl⟩ := Int.eq_ofNat_of_zero_le hp.1
      have hk : k < 64 := by omega
      rw [mem_nat _ _ hk] at hm
      have h0 := h.nom k hk hm
      have h1 := h.ok.dc k hk
      have h2 : r.dn k = 0 := by rw [← h.dn]; omega
      have e : dropLo r.lo L (k : Int) (min upto (r.dn (k : Int).toNat)) = r.lo := by
        unfold dropLo
        rw [if_pos hp, Int.toNat_natCast, h2]
        funext q
        by_cases e : q = k
        · subst e; rw [updF_same]; simp
        · rw [updF_other _ _ _ _ e]
      rw [e]
      exact ⟨h.ok, h.me, h.ms, h.P, h.Z, h.clk, h.oth, h.dn, h.last, h.cmd, h.nom⟩
    · exact h
/-- A message that is taken. -/
theorem ORel.take (h : ORel O r L T) (m : Mg) (hm : m.okS) (t u : Sl) :
    takeCode O m = (if mem r.ms m.f then rcode L m else 5) ∧ ORel (takeO O m) { r with hs := t, zs := u, clk := if mem r.ms m.f ∧ rcode L m = 0 then takeClk r m else r.clk } (if mem r.ms m.f then rputL L m else L) (if mem r.ms m.f ∧ rcode L m = 0 then takeT r m T else T) := by
  have hp := h.P.put m
  rw [← h.ms]
  cases hM : mem O.ms m.f with
  | false =>
    obtain ⟨e1, e2⟩ := takeO_no hM
    rw [e1, e2]
    refine ⟨rfl, ?_⟩
    rw [if_neg (fun e => Bool.noConfusion e.1), if_neg (by decide), if_neg (fun e => Bool.noConfusion e.1)]
    exact ⟨h.ok, h.me, rfl, h.P, h.Z, h.clk, h.oth, h.dn, h.last, h.cmd, h.nom⟩
  | true =>
    rw [if_pos rfl, if_pos rfl]
    by_cases hc : putCode O.S m = 0
    · obtain ⟨e1, e2⟩ := takeO_ok hM hc
      have hok := took_ok h.ok hm hc
      rw [e1, e2, ← hp.1, hc]
      refine ⟨rfl, ?_⟩
      rw [if_pos ⟨rfl, rfl⟩, if_pos ⟨rfl, rfl⟩]
      obtain ⟨k, hf, hk, hq, hS⟩ := put_code hc
      have hcnt : ∀ q, (putS O.S m).cnt q = if q = k then O.S.cnt q + 1 else O.S.cnt q := fun q => by
        rw [hS]
        unfold Hs.cnt
        show O.S.lo q + (updF O.S.R k (O.S.R k ++ [strip m]) q).length = _
        by_cases e : q = k
        · subst e; rw [updF_same, if_pos rfl, List.length_append]; simp; omega
        · rw [updF_other _ _ _ _ e, if_neg e]
      have q0 := hm.q0
      have q1 := hm.q1
      have s0 := hm.s0
      have s1 := hm.s1
      have ho := h.othI m.f
      have hqn : m.q.toNat = O.S.cnt k + 1 := by omega
      have hTl : ∀ q : Nat, q < 64 → cameD (q : Int) (takeT r m T) ≤ (putS O.S m).cnt q := fun q hq64 => by
        rw [hcnt]
        have hc0 := h.cmd q hq64
        unfold takeT
        split
        · rw [cameD_snoc]
          by_cases e : q = k
          · subst e
            rw [if_pos rfl]
            split
            · show m.q.toNat ≤ _; omega
            · omega
          · rw [if_neg e, if_neg (fun e2 => e (by have : m.f = (q : Int) := e2.1; omega))]; exact hc0
        · split <;> omega
      refine ⟨hok, h.me, rfl, hp.2, ?_, ?_, ?_, h.dn, h.last, hTl, fun q hq64 hn => ?_⟩
      · show ZRel (if m.f = O.me then seeZ O.H m.s.toNat else cameZ O.H m.f m.q.toNat m.s.toNat) _
        unfold takeT
        rw [← h.me]
        by_cases e : m.f = O.me
        · rw [if_pos e, if_neg (fun e2 => e2.1 e)]; exact h.Z.see _
        · rw [if_neg e]
          cases hmo : mem r.oth m.f with
          | false => rw [hmo] at ho; rw [cameZ_no ho, if_neg (fun e2 => Bool.noConfusion e2.2)]; exact h.Z
          | true =>
            rw [if_pos ⟨e, rfl⟩, hf]
            obtain ⟨k2, hk2, hk3, hb⟩ := mem_is hmo
            have : k2 = k := by omega
            subst this
            exact h.Z.came k2 hk (by rw [h.oth]; exact hb) m.q.toNat m.s.toNat (by omega) (by omega) (by have := h.cmd k2 hk; omega)
      · show (if m.f = O.me then seeZ O.H m.s.toNat else cameZ O.H m.f m.q.toNat m.s.toNat).clock = takeClk r m
        unfold takeClk
        rw [← h.me]
        by_cases e : m.f = O.me
        · rw [if_pos e, if_neg (fun e2 => e2 e), ← h.clk]; rfl
        · rw [if_neg e, if_pos e, come_clk, ho, h.clk]
      · show (if m.f = O.me then seeZ O.H m.s.toNat else cameZ O.H m.f m.q.toNat m.s.toNat).oth = r.oth
        split
        · exact h.oth
        · rw [came_oth]; exact h.oth
      · show (putS O.S m).cnt q = 0
        rw [hcnt, if_neg]
        · exact h.nom q hq64 hn
        · intro e
          subst e
          change O.ms.testBit q = false at hn
          rw [hf, mem_nat _ _ hk] at hM
          rw [hM] at hn; cases hn
    · obtain ⟨e1, e2⟩ := takeO_bad hM hc
      rw [e1, e2]
      have hc2 : rcode L m ≠ 0 := by rw [← hp.1]; exact hc
      refine ⟨hp.1, ?_⟩
      rw [if_neg (fun e => hc2 e.2), if_neg (fun e => hc2 e.2), rput_no hc2]
      exact ⟨h.ok, h.me, rfl, h.P, h.Z, h.clk, h.oth, h.dn, h.last, h.cmd, h.nom⟩
end
end Go.Proofs.Ytfocjcdfpnbkjaa
