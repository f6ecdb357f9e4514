/- An order that is trimmed beside one that isn't: plain facts. -/
import Derived.Test.YtlkmenjalpmipaaZOrdOpens
set_option linter.unusedVariables false
set_option maxRecDepth 100000
set_option linter.unusedSimpArgs false
namespace Go.Proofs.Ytlkmenjalpmipaa
open Go.RowKit Go.Sort Go.Shelf

/-- T is O, trimmed. -/
structure TRel (O T : Od) : Prop where
  me : T.me = O.me
  ms : T.ms = O.ms
  H : T.H = O.H
  dn : T.dn = O.dn
  last : T.last = O.last
  lo0 : ∀ p, p < 64 → O.S.lo p = 0
  le : ∀ p, p < 64 → T.S.lo p ≤ (O.S.R p).length
  R : ∀ p, p < 64 → T.S.R p = (O.S.R p).drop (T.S.lo p)
theorem TRel.start (me : Int) (s : Nat) : TRel (newO me s) (newO me s) := ⟨rfl, rfl, rfl, rfl, rfl, fun _ _ => rfl, fun _ _ => Nat.zero_le _, fun _ _ => rfl⟩
section
variable {O T : Od}
theorem TRel.cnt (h : TRel O T) (p : Nat) (hp : p < 64) : T.S.cnt p = O.S.cnt p := by
  have h1 := h.le p hp
  unfold Hs.cnt
  rw [h.R p hp, h.lo0 p hp, List.length_drop]
  omega
theorem TRel.code (h : TRel O T) (m : Mg) : putCode T.S m = putCode O.S m := by
  unfold putCode
  by_cases hp : 0 ≤ m.f ∧ m.f < 64
  · rw [if_pos hp, if_pos hp, h.cnt m.f.toNat (by omega)]
  · rw [if_neg hp, if_neg hp]
theorem TRel.take (h : TRel O T) (m : Mg) : TRel (takeO O m) (takeO T m) := by
  cases hM : mem O.ms m.f with
  | false => rw [(takeO_no hM).1, (takeO_no (by rw [h.ms]; exact hM)).1]; exact h
  | true =>
    have hM2 : mem T.ms m.f = true := by rw [h.ms]; exact hM
    by_cases hc : putCode O.S m = 0
    · have hc2 : putCode T.S m = 0 := by rw [h.code]; exact hc
      rw [(takeO_ok hM hc).1, (takeO_ok hM2 hc2).1]
      obtain ⟨k, hf, hk, hq, hS⟩ := put_code hc
      obtain ⟨k2, hf2, hk2, hq2, hS2⟩ := put_code hc2
      have : k2 = k := by omega
      subst this
      refine ⟨h.me, h.ms, ?_, h.dn, h.last, fun p hp => ?_, fun p hp => ?_, fun p hp => ?_⟩
      · show (if m.f = T.me then seeZ T.H m.s.toNat else cameZ T.H m.f m.q.toNat m.s.toNat) = (if m.f = O.me then seeZ O.H m.s.toNat else cameZ O.H m.f m.q.toNat m.s.toNat)
        rw [h.me, h.H]
      · show (putS O.S m).lo p = 0
        rw [hS]; exact h.lo0 p hp
      · show (putS T.S m).lo p ≤ ((putS O.S m).R p).length
        rw [hS, hS2]
        show T.S.lo p ≤ (updF O.S.R k2 (O.S.R k2 ++ [strip m]) p).length
        have := h.le p hp
        by_cases e : p = k2
        · subst e; rw [updF_same, List.length_append]; omega
        · rw [updF_other _ _ _ _ e]; exact this
      · show (putS T.S m).R p = ((putS O.S m).R p).drop ((putS T.S m).lo p)
        rw [hS, hS2]
        show updF T.S.R k2 (T.S.R k2 ++ [strip m]) p = (updF O.S.R k2 (O.S.R k2 ++ [strip m]) p).drop (T.S.lo p)
        have h1 := h.le p hp
        by_cases e : p = k2
        · subst e
          rw [updF_same, updF_same, h.R p hp, List.drop_append_of_le_length h1]
        · rw [updF_other _ _ _ _ e, updF_other _ _ _ _ e]; exact h.R p hp
    · have hc2 : putCode T.S m ≠ 0 := by rw [h.code]; exact hc
      rw [(takeO_bad hM hc).1, (takeO_bad hM2 hc2).1]; exact h
theorem TRel.withH (h : TRel O T) {H H' : Hz} (e : H' = H) : TRel { O with H := H } { T with H := H' } := ⟨h.me, h.ms, e, h.dn, h.last, h.lo0, h.le, h.R⟩
theorem TRel.prom (h : TRel O T) (p : Int) (st sn : Nat) : TRel (promO O p st sn) (promO T p st sn) := h.withH (by rw [h.H])
theorem TRel.reach (h : TRel O T) (p : Int) (st : Nat) : TRel (reachO O p st) (reachO T p st) := h.withH (by rw [h.H])
theorem TRel.hd (h : TRel O T) (hT : T.ok) (p : Nat) (hp : p < 64) : hdO T p = hdO O p := by
  have h1 := hT.lo p hp
  rw [hdO_eq, hdO_eq, h.R p hp, List.getElem?_drop, h.lo0 p hp, h.dn]
  rw [h.dn] at h1
  rw [show T.S.lo p + (O.dn p - T.S.lo p) = O.dn p - 0 by omega]
theorem heads_ext {O T : Od} (hms : T.ms = O.ms) (h : ∀ p, p < 64 → hdO T p = hdO O p) : headsO T = headsO O := by
  unfold headsO headsK
  rw [hms]
  have : ∀ l : List Nat, (∀ p ∈ l, p < 64) → l.flatMap (hdO T) = l.flatMap (hdO O) := fun l => by
    induction l with
    | nil => exact fun _ => rfl
    | cons p l ih =>
      intro hl
      rw [List.flatMap_cons, List.flatMap_cons, h p (hl p List.mem_cons_self), ih fun q hq => hl q (List.mem_cons_of_mem _ hq)]
  exact this _ fun p hp => ((lst_mem _ _).1 hp).1
theorem TRel.next (h : TRel O T) (hT : T.ok) : (nextO O = none → nextO T = none) ∧ ∀ m O', nextO O = some (m, O') → ∃ T', nextO T = some (m, T') ∧ TRel O' T' := by
  have hh : headsO T = headsO O := heads_ext h.ms fun p hp => h.hd hT p hp
  have hr : ∀ m, ripeO T m = ripeO O m := fun m => by unfold ripeO; rw [h.H]
  have hd : ∀ m, TRel (delO O m) (delO T m) := fun m => ⟨h.me, h.ms, h.H, by show updF T.dn _ _ = updF O.dn _ _; rw [h.dn], rfl, h.lo0, h.le, h.R⟩
  unfold nextO
  rw [hh]
  cases hb : bestK (headsO O) none with
  | none => exact ⟨fun _ => rfl, fun m O' e => by cases e⟩
  | some x =>
    simp only [hr]
    cases hx : ripeO O x with
    | false => exact ⟨fun _ => rfl, fun m O' e => by cases e⟩
    | true =>
      refine ⟨(fun e => by cases e), fun m O' e => ?_⟩
      injection e with e
      injection e with e1 e2
      subst e1 e2
      exact ⟨_, rfl, hd x⟩
theorem TRel.drains {P : Od} {l : List Mg} (h : TRel O T) (hO : O.ok) (hT : T.ok) (k : Drains O l P) : ∃ Q, Drains T l Q ∧ TRel P Q := by
  induction k generalizing T with
  | stop hn => exact ⟨T, .stop ((h.next hT).1 hn), h⟩
  | more hn _ ih =>
    obtain ⟨T', h1, h2⟩ := (h.next hT).2 _ _ hn
    obtain ⟨Q, h3, h4⟩ := ih h2 (next_ok hO hn) (next_ok hT h1)
    exact ⟨Q, .more h1 h3, h4⟩
theorem TRel.drain (h : TRel O T) (hO : O.ok) (hT : T.ok) : (drainO T).1 = (drainO O).1 ∧ TRel (drainO O).2 (drainO T).2 := by
  obtain ⟨Q, h1, h2⟩ := h.drains hO hT (drainO_is hO)
  have e := h1.eq hT
  rw [e]
  exact ⟨rfl, h2⟩
theorem TRel.trim (h : TRel O T) (p : Int) (u : Nat) : TRel O (trimO T p u) := by
  unfold trimO
  cases hM : mem T.ms p with
  | false => exact h
  | true =>
    rw [if_pos rfl]
    have hp : 0 ≤ p ∧ p < 64 := by unfold mem at hM; simp at hM; exact hM.1
    obtain ⟨k, hk⟩ := Int.eq_ofNat_of_zero_le hp.1
    have hk64 : k < 64 := by omega
    rw [drop_is hk64 hk]
    have hD : dropN T.S k (min u (T.dn p.toNat)) ≤ (T.S.R k).length := by unfold dropN; omega
    generalize dropN T.S k (min u (T.dn p.toNat)) = D at *
    refine ⟨h.me, h.ms, h.H, h.dn, h.last, h.lo0, fun q hq => ?_, fun q hq => ?_⟩
    · show updF T.S.lo k (T.S.lo k + D) q ≤ _
      have h1 := h.le q hq
      by_cases e : q = k
      · subst e
        rw [updF_same]
        rw [h.R q hq, List.length_drop] at hD
        omega
      · rw [updF_other _ _ _ _ e]; exact h1
    · show updF T.S.R k ((T.S.R k).drop D) q = (O.S.R q).drop (updF T.S.lo k (T.S.lo k + D) q)
      by_cases e : q = k
      · subst e
        rw [updF_same, updF_same, h.R q hq, List.drop_drop]
      · rw [updF_other _ _ _ _ e, updF_other _ _ _ _ e]; exact h.R q hq
theorem catF_rest (X Y : Nat → List Mg) (kk : K) (f : Mg → Bool) (h : ∀ p, p < 64 → (X p).filter f = (Y p).filter f) : ∀ k, k ≤ 64 → (catF X kk k).filter f = (catF Y kk k).filter f
  | 0, _ => rfl
  | k + 1, hk => by
    unfold catF
    rw [List.filter_append, List.filter_append, catF_rest X Y kk f h k (by omega), List.filter_filter, List.filter_filter]
    have e : ∀ Z : List Mg, Z.filter (fun x => f x && kk.less x.key) = (Z.filter f).filter fun x => kk.less x.key := fun Z => by
      rw [List.filter_filter]
      refine List.filter_congr fun x _ => ?_
      rw [Bool.and_comm]
    rw [e, e, h k (by omega)]
theorem TRel.rest (h : TRel O T) (hO : O.ok) (hT : T.ok) {Y : List Mg} (k : IsRest O Y) : IsRest T Y := by
  unfold IsRest at *
  have e : leftM T = leftM O := by funext x; unfold leftM; rw [h.dn]
  rw [e]
  have e2 := catF_rest O.S.R T.S.R ⟨0, -1⟩ (leftM O) (fun p hp => by
    have h1 := hT.lo p hp
    rw [h.dn] at h1
    rw [h.R p hp]
    conv => lhs; rw [← List.take_append_drop (T.S.lo p) (O.S.R p)]
    rw [List.filter_append]
    have e3 : ((O.S.R p).take (T.S.lo p)).filter (leftM O) = [] := List.filter_eq_nil_iff.2 fun x hx => by
      obtain ⟨i, hi⟩ := List.getElem?_of_mem hx
      rw [List.getElem?_take] at hi
      split at hi
      · rename_i hil
        obtain ⟨h2, h3⟩ := hO.num p hp i x hi
        rw [h.lo0 p hp] at h3
        unfold leftM
        rw [h2, Int.toNat_natCast]
        simp
        omega
      · cases hi
    rw [e3, List.nil_append]) 64 (Nat.le_refl _)
  rw [← e2]
  exact k
/-- An act of the law: whatever is none of the first three drains. -/
def stepT (O : Od) (a : OA) : Od × List Mg :=
  if a.kind = 0 then (takeO O a.m, []) else if a.kind = 1 then (promO O a.p a.st a.seq, []) else if a.kind = 2 then (reachO O a.p a.st, []) else ((drainO O).2, (drainO O).1)
theorem stepT_0 {O : Od} {a : OA} (h : a.kind = 0) : stepT O a = (takeO O a.m, []) := by unfold stepT; rw [if_pos h]
theorem stepT_1 {O : Od} {a : OA} (h : a.kind = 1) : stepT O a = (promO O a.p a.st a.seq, []) := by unfold stepT; rw [if_neg (by omega), if_pos h]
theorem stepT_2 {O : Od} {a : OA} (h : a.kind = 2) : stepT O a = (reachO O a.p a.st, []) := by unfold stepT; rw [if_neg (by omega), if_neg (by omega), if_pos h]
theorem stepT_else {O : Od} {a : OA} (h : ¬ (a.kind = 0 ∨ a.kind = 1 ∨ a.kind = 2)) : stepT O a = ((drainO O).2, (drainO O).1) := by unfold stepT; rw [if_neg (by omega), if_neg (by omega), if_neg (by omega)]
theorem TRel.step (h : TRel O T) (hO : O.ok) (hT : T.ok) (a : OA) : (stepT T a).2 = (stepT O a).2 ∧ TRel (stepT O a).1 (stepT T a).1 := by
  by_cases h0 : a.kind = 0
  · rw [stepT_0 h0, stepT_0 h0]; exact ⟨rfl, h.take _⟩
  by_cases h1 : a.kind = 1
  · rw [stepT_1 h1, stepT_1 h1]; exact ⟨rfl, h.prom _ _ _⟩
  by_cases h2 : a.kind = 2
  · rw [stepT_2 h2, stepT_2 h2]; exact ⟨rfl, h.reach _ _⟩
  rw [stepT_else (by omega), stepT_else (by omega)]
  exact h.drain hO hT
end
end Go.Proofs.Ytlkmenjalpmipaa
