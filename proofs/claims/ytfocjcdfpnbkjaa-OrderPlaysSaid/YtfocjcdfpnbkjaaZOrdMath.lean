/- An order: plain facts. -/
import Derived.Test.YtfocjcdfpnbkjaaZHdVecs
import Derived.Test.YtfocjcdfpnbkjaaZSetMaths
set_option linter.unusedVariables false
set_option linter.unusedSimpArgs false
namespace Go.Proofs.Ytfocjcdfpnbkjaa
open Go.RowKit Go.Sort

/-- An order: whose, among whom, its hold, its horizon, how many of each were delivered, the last key. -/
structure Od where
  me : Int
  ms : Nat
  S : Hs
  H : Hz
  dn : Nat → Nat
  last : K
def newO (me : Int) (s : Nat) : Od := ⟨me, any s (onl me), hs0, newZ me (any s (onl me)), fun _ => 0, ⟨0, 0⟩⟩
def takeCode (O : Od) (m : Mg) : Int := if mem O.ms m.f then putCode O.S m else 5
/-- A message that is taken. -/
def tookO (O : Od) (m : Mg) : Od := { O with S := putS O.S m, H := if m.f = O.me then seeZ O.H m.s.toNat else cameZ O.H m.f m.q.toNat m.s.toNat }
def takeO (O : Od) (m : Mg) : Od := if mem O.ms m.f then (if putCode O.S m = 0 then tookO O m else O) else O
theorem takeO_no {O : Od} {m : Mg} (h : mem O.ms m.f = false) : takeO O m = O ∧ takeCode O m = 5 := by unfold takeO takeCode; rw [h]; exact ⟨rfl, rfl⟩
theorem takeO_bad {O : Od} {m : Mg} (h : mem O.ms m.f = true) (hc : putCode O.S m ≠ 0) : takeO O m = O ∧ takeCode O m = putCode O.S m := by unfold takeO takeCode; rw [h, if_pos rfl, if_neg hc, if_pos rfl]; exact ⟨rfl, rfl⟩
theorem takeO_ok {O : Od} {m : Mg} (h : mem O.ms m.f = true) (hc : putCode O.S m = 0) : takeO O m = tookO O m ∧ takeCode O m = 0 := by unfold takeO takeCode; rw [h, if_pos rfl, if_pos hc, if_pos rfl]; exact ⟨rfl, hc⟩
theorem putS_bad {S : Hs} {m : Mg} (h : putCode S m ≠ 0) : putS S m = S := by
  unfold putS putCode at *
  split
  · rename_i h1
    rw [if_pos h1] at h
    split
    · rename_i h2; rw [if_pos h2] at h; exact absurd rfl h
    · rfl
  · rfl
theorem put_code {S : Hs} {m : Mg} (h : putCode S m = 0) : ∃ k : Nat, m.f = (k : Int) ∧ k < 64 ∧ m.q = (S.cnt k : Int) + 1 ∧ putS S m = ⟨S.lo, updF S.R k (S.R k ++ [strip m])⟩ := by
  unfold putCode at h
  split at h
  · rename_i h1
    split at h
    · rename_i h2
      obtain ⟨k, hk⟩ := Int.eq_ofNat_of_zero_le h1.1
      refine ⟨k, hk, by omega, ?_, ?_⟩
      · rw [hk, Int.toNat_natCast] at h2; exact h2
      · unfold putS; rw [if_pos h1, if_pos h2, hk, Int.toNat_natCast]
    · exact absurd h (by decide)
  · exact absurd h (by decide)

/-- What always holds. -/
structure Od.ok (O : Od) : Prop where
  m : O.ms < 18446744073709551616
  me0 : -9223372036854775808 ≤ O.me
  me1 : O.me ≤ 9223372036854775807
  hz : O.H.ok
  num : ∀ p, p < 64 → ∀ (i : Nat) (x : Mg), (O.S.R p)[i]? = some x → x.f = (p : Int) ∧ x.q = (O.S.lo p : Int) + i + 1
  st : ∀ p, p < 64 → ∀ x ∈ O.S.R p, 0 ≤ x.s ∧ x.s < 18446744073709551616
  lo : ∀ p, p < 64 → O.S.lo p ≤ O.dn p
  dc : ∀ p, p < 64 → O.dn p ≤ O.S.cnt p
theorem newO_ok (me : Int) (s : Nat) (m0 : -9223372036854775808 ≤ me) (m1 : me ≤ 9223372036854775807) : (newO me s).ok :=
  ⟨any_lt _ _, m0, m1, ok_new _ _, (fun p _ i x h => by simp [newO, hs0] at h), (fun p _ x h => by simp [newO, hs0] at h), fun p _ => Nat.le_refl _, fun p _ => Nat.zero_le _⟩
theorem ok_came {H : Hz} (h : H.ok) (p : Int) (q s : Nat) (hq : q < 4294967296) (hs : s < 18446744073709551616) : (cameZ H p q s).ok := by
  cases ho : othZ H p with
  | false => rw [cameZ_no ho]; exact h
  | true =>
    rw [cameZ_yes ho]
    exact ok_count (ok_mark (ok_see h hs) p.toNat (m := ⟨max (H.mks p.toNat).hd s, (H.mks p.toNat).rc, q⟩) (by show max (H.mks p.toNat).hd s < _; have := h.h p.toNat; omega) (h.r _) hq) _
/-- What is known of a message that is handed in. -/
structure Mg.okS (m : Mg) : Prop where
  f0 : -9223372036854775808 ≤ m.f
  f1 : m.f ≤ 9223372036854775807
  q0 : 0 ≤ m.q
  q1 : m.q < 4294967296
  s0 : 0 ≤ m.s
  s1 : m.s < 18446744073709551616
theorem took_ok {O : Od} {m : Mg} (h : O.ok) (hm : m.okS) (hc : putCode O.S m = 0) : (tookO O m).ok := by
  obtain ⟨k, hf, hk, hq, hS⟩ := put_code hc
  have q1 := hm.q1
  have s1 := hm.s1
  have s0 := hm.s0
  have q0 := hm.q0
  have hlo : ∀ p, (putS O.S m).lo p = O.S.lo p := fun p => by rw [hS]
  have hR : ∀ p, (putS O.S m).R p = updF O.S.R k (O.S.R k ++ [strip m]) p := fun p => by rw [hS]
  refine ⟨h.m, h.me0, h.me1, ?_, fun p hp i x hx => ?_, fun p hp x hx => ?_, fun p hp => ?_, fun p hp => ?_⟩
  · show (if m.f = O.me then seeZ O.H m.s.toNat else cameZ O.H m.f m.q.toNat m.s.toNat).ok
    split
    · exact ok_see h.hz (by omega)
    · exact ok_came h.hz _ _ _ (by omega) (by omega)
  · show x.f = (p : Int) ∧ x.q = ((putS O.S m).lo p : Int) + i + 1
    change ((putS O.S m).R p)[i]? = some x at hx
    rw [hR] at hx
    rw [hlo]
    by_cases e : p = k
    · subst e
      rw [updF_same] at hx
      by_cases hi : i < (O.S.R p).length
      · rw [List.getElem?_append_left hi] at hx
        exact h.num p hp i x hx
      · have hi2 := (List.getElem?_eq_some_iff.1 hx).1
        rw [List.length_append, List.length_singleton] at hi2
        have hi3 : i = (O.S.R p).length := by omega
        subst hi3
        rw [List.getElem?_append_right (Nat.le_refl _), Nat.sub_self] at hx
        have hx' : strip m = x := by simpa using hx
        subst hx'
        refine ⟨hf, ?_⟩
        show m.q = _
        rw [hq]
        unfold Hs.cnt
        omega
    · rw [updF_other _ _ _ _ e] at hx
      exact h.num p hp i x hx
  · change x ∈ (putS O.S m).R p at hx
    rw [hR] at hx
    by_cases e : p = k
    · subst e
      rw [updF_same] at hx
      rcases List.mem_append.1 hx with hx | hx
      · exact h.st p hp x hx
      · have hx' : x = strip m := by simpa using hx
        subst hx'
        exact ⟨s0, s1⟩
    · rw [updF_other _ _ _ _ e] at hx
      exact h.st p hp x hx
  · show (putS O.S m).lo p ≤ O.dn p
    rw [hlo]; exact h.lo p hp
  · show O.dn p ≤ (putS O.S m).cnt p
    have := h.dc p hp
    unfold Hs.cnt at *
    rw [hlo, hR]
    by_cases e : p = k
    · subst e
      rw [updF_same, List.length_append]; omega
    · rw [updF_other _ _ _ _ e]; exact this
theorem take_ok {O : Od} {m : Mg} (h : O.ok) (hm : m.okS) : (takeO O m).ok := by
  cases hM : mem O.ms m.f with
  | false => rw [(takeO_no hM).1]; exact h
  | true =>
    by_cases hc : putCode O.S m = 0
    · rw [(takeO_ok hM hc).1]; exact took_ok h hm hc
    · rw [(takeO_bad hM hc).1]; exact h
def promO (O : Od) (p : Int) (st sn : Nat) : Od := { O with H := promZ O.H p st sn }
def reachO (O : Od) (p : Int) (st : Nat) : Od := { O with H := reachZ O.H p st }
def seeO (O : Od) (st : Nat) : Od := { O with H := seeZ O.H st }
theorem Od.ok.withH {O : Od} (h : O.ok) {H : Hz} (hH : H.ok) : ({ O with H := H } : Od).ok := ⟨h.m, h.me0, h.me1, hH, h.num, h.st, h.lo, h.dc⟩

/-- A process's head. -/
def hdO (O : Od) (p : Nat) : List Mg := fromX (O.S.lo p) (O.S.R p) (O.dn p + 1) 1
theorem take_one {α : Type} (l : List α) : l.take 1 = l[0]?.toList := by cases l <;> rfl
theorem hdO_eq (O : Od) (p : Nat) : hdO O p = ((O.S.R p)[O.dn p - O.S.lo p]?).toList := by
  unfold hdO fromX
  rw [show O.dn p + 1 - O.S.lo p - 1 = O.dn p - O.S.lo p by omega, show (1 : Int).toNat = 1 from rfl, take_one, List.getElem?_drop, Nat.add_zero]
def headsK (O : Od) (l : List Nat) : List Mg := l.flatMap (hdO O)
def headsO (O : Od) : List Mg := headsK O (lst O.ms)
theorem headsK_len (O : Od) : ∀ l, (headsK O l).length ≤ l.length
  | [] => Nat.le_refl _
  | p :: l => by
    have ih := headsK_len O l
    unfold headsK at *
    rw [List.flatMap_cons, List.length_append, List.length_cons, hdO_eq]
    have : ((O.S.R p)[O.dn p - O.S.lo p]?).toList.length ≤ 1 := by cases (O.S.R p)[O.dn p - O.S.lo p]? <;> simp
    omega
theorem headsK_next (O : Od) (l : List Nat) (k p : Nat) (h : l[k]? = some p) : headsK O (l.take (k + 1)) = headsK O (l.take k) ++ hdO O p := by
  unfold headsK
  rw [List.take_add_one, h, List.flatMap_append]
  simp
theorem headsO_mem {O : Od} {m : Mg} (h : m ∈ headsO O) : ∃ p, p < 64 ∧ O.ms.testBit p = true ∧ (O.S.R p)[O.dn p - O.S.lo p]? = some m := by
  unfold headsO headsK at h
  obtain ⟨p, hp, hm⟩ := List.mem_flatMap.1 h
  rw [hdO_eq] at hm
  have h2 := (lst_mem _ _).1 hp
  exact ⟨p, h2.1, h2.2, by simpa using hm⟩
theorem headsO_of {O : Od} {m : Mg} {p : Nat} (hp : p < 64) (hb : O.ms.testBit p = true) (hm : (O.S.R p)[O.dn p - O.S.lo p]? = some m) : m ∈ headsO O := by
  unfold headsO headsK
  exact List.mem_flatMap.2 ⟨p, (lst_mem _ _).2 ⟨hp, hb⟩, by rw [hdO_eq, hm]; simp⟩
/-- What a head is. -/
theorem head_is {O : Od} (h : O.ok) {m : Mg} (hm : m ∈ headsO O) : ∃ p, p < 64 ∧ O.ms.testBit p = true ∧ m.f = (p : Int) ∧ m.q = (O.dn p : Int) + 1 ∧ O.dn p < O.S.cnt p ∧ (O.S.R p)[O.dn p - O.S.lo p]? = some m := by
  obtain ⟨p, hp, hb, hi⟩ := headsO_mem hm
  obtain ⟨h1, h2⟩ := h.num p hp _ _ hi
  have h3 := h.lo p hp
  have h4 := (List.getElem?_eq_some_iff.1 hi).1
  refine ⟨p, hp, hb, h1, by omega, ?_, hi⟩
  unfold Hs.cnt; omega

/-- The first of the least. -/
def bestK : List Mg → Option Mg → Option Mg
  | [], b => b
  | m :: l, none => bestK l (some m)
  | m :: l, some b => bestK l (if m.key.less b.key then some m else some b)
theorem bestK_app : ∀ (l r : List Mg) (b : Option Mg), bestK (l ++ r) b = bestK r (bestK l b)
  | [], r, b => rfl
  | m :: l, r, none => bestK_app l r _
  | m :: l, r, some b => bestK_app l r _
theorem bestK_least : ∀ (l : List Mg) (b m : Mg), bestK l (some b) = some m → m.key.less b.key = true ∨ m = b
  | [], b, m, h => .inr (by simpa [bestK] using h.symm)
  | x :: l, b, m, h => by
    unfold bestK at h
    cases hx : x.key.less b.key with
    | true =>
      rw [hx] at h
      rcases bestK_least l x m h with e | e
      · exact .inl (K.less_trans e hx)
      · rw [e]; exact .inl hx
    | false =>
      rw [hx] at h
      exact bestK_least l b m h
theorem bestK_mem : ∀ (l : List Mg) (b : Option Mg) (m : Mg), bestK l b = some m → m ∈ l ∨ b = some m
  | [], b, m, h => .inr h
  | x :: l, none, m, h => by
    rcases bestK_mem l _ m h with e | e
    · exact .inl (List.mem_cons_of_mem _ e)
    · injection e with e; subst e; exact .inl List.mem_cons_self
  | x :: l, some b, m, h => by
    unfold bestK at h
    cases hx : x.key.less b.key with
    | true =>
      rw [hx] at h
      rcases bestK_mem l _ m h with e | e
      · exact .inl (List.mem_cons_of_mem _ e)
      · injection e with e; subst e; exact .inl List.mem_cons_self
    | false =>
      rw [hx] at h
      rcases bestK_mem l _ m h with e | e
      · exact .inl (List.mem_cons_of_mem _ e)
      · exact .inr e
theorem bestK_all : ∀ (l : List Mg) (b : Option Mg) (m : Mg), bestK l b = some m → (∀ y ∈ l, y.key.less m.key = false) ∧ ∀ y, b = some y → y.key.less m.key = false
  | [], b, m, h => ⟨(fun y hy => by cases hy), fun y hy => by rw [show b = some m from h] at hy; injection hy with hy; subst hy; exact K.less_irrefl _⟩
  | x :: l, none, m, h => by
    obtain ⟨h1, h2⟩ := bestK_all l _ m h
    refine ⟨fun y hy => ?_, (fun y hy => by cases hy)⟩
    rcases List.mem_cons.1 hy with e | e
    · subst e; exact h2 _ rfl
    · exact h1 y e
  | x :: l, some b, m, h => by
    unfold bestK at h
    cases hx : x.key.less b.key with
    | true =>
      rw [hx] at h
      obtain ⟨h1, h2⟩ := bestK_all l _ m h
      have h3 := h2 x rfl
      refine ⟨fun y hy => ?_, fun y hy => ?_⟩
      · rcases List.mem_cons.1 hy with e | e
        · subst e; exact h3
        · exact h1 y e
      · injection hy with hy; subst hy
        exact K.le_trans h3 (K.less_asymm hx)
    | false =>
      rw [hx] at h
      obtain ⟨h1, h2⟩ := bestK_all l _ m h
      have h3 := h2 b rfl
      refine ⟨fun y hy => ?_, fun y hy => ?_⟩
      · rcases List.mem_cons.1 hy with e | e
        · subst e; exact K.le_trans h3 hx
        · exact h1 y e
      · injection hy with hy; subst hy; exact h3
theorem bestK_some : ∀ (l : List Mg) (b : Mg), ∃ m, bestK l (some b) = some m
  | [], b => ⟨b, rfl⟩
  | x :: l, b => by
    unfold bestK
    cases hx : x.key.less b.key with
    | true => exact bestK_some l x
    | false => exact bestK_some l b
theorem bestK_none {l : List Mg} (h : bestK l none = none) : l = [] := by
  cases l with
  | nil => rfl
  | cons x l =>
    obtain ⟨m, hm⟩ := bestK_some l x
    rw [show bestK (x :: l) none = bestK l (some x) from rfl, hm] at h
    cases h
/-- Of heads of different senders: what a sort puts first. -/
theorem best_sorted {L M : List Mg} {x : Mg} {r : List Mg} (hk : ∀ y ∈ L, ∀ z ∈ L, y.key = z.key → y = z) (h : IsSrt Mg.key L M) (hM : M = x :: r) : bestK L none = some x := by
  have hx : x ∈ L := (h.fil.mem x).1 (by rw [hM]; exact List.mem_cons_self)
  have hle : ∀ y ∈ L, y.key.less x.key = false := fun y hy => by
    have := (h.fil.mem y).2 hy
    rw [hM] at this
    rcases List.mem_cons.1 this with e | e
    · subst e; exact K.less_irrefl _
    · have h2 := h.srt
      rw [hM] at h2
      exact (List.pairwise_cons.1 h2).1 y e
  cases hb : bestK L none with
  | none =>
    have e := bestK_none hb
    rw [e] at hx
    cases hx
  | some m =>
    obtain ⟨h1, _⟩ := bestK_all L none m hb
    rcases bestK_mem L none m hb with e | e
    · rw [hk m e x hx (K.eq_of (hle m e) (h1 x hx))]
    · cases e
theorem heads_apart {O : Od} (h : O.ok) : ∀ y ∈ headsO O, ∀ z ∈ headsO O, y.key = z.key → y = z := fun y hy z hz e => by
  obtain ⟨p, hp, _, h1, _, _, h2⟩ := head_is h hy
  obtain ⟨q, hq, _, h3, _, _, h4⟩ := head_is h hz
  have e2 : y.f = z.f := congrArg K.p e
  have : p = q := by omega
  subst this
  rw [h2] at h4
  injection h4

def ripeO (O : Od) (m : Mg) : Bool := if m.v = 2 then decide (m.s ≤ (safeN O.H : Int)) else decide (m.s ≤ (allN O.H : Int))
def delO (O : Od) (m : Mg) : Od := { O with dn := updF O.dn m.f.toNat (O.dn m.f.toNat + 1), last := m.key }
def nextO (O : Od) : Option (Mg × Od) := match bestK (headsO O) none with
  | none => none
  | some m => if ripeO O m then some (m, delO O m) else none
theorem nextO_none {O : Od} (h : headsO O = []) : nextO O = none := by unfold nextO; rw [h]; rfl
theorem nextO_best {O : Od} {m : Mg} (h : bestK (headsO O) none = some m) : nextO O = if ripeO O m then some (m, delO O m) else none := by unfold nextO; rw [h]
theorem nextO_is {O O' : Od} {m : Mg} (h : nextO O = some (m, O')) : bestK (headsO O) none = some m ∧ m ∈ headsO O ∧ ripeO O m = true ∧ O' = delO O m := by
  unfold nextO at h
  cases hb : bestK (headsO O) none with
  | none => rw [hb] at h; cases h
  | some x =>
    rw [hb] at h
    simp only at h
    split at h
    · rename_i hr
      injection h with h
      injection h with h1 h2
      subst h1 h2
      rcases bestK_mem _ _ _ hb with e | e
      · exact ⟨rfl, e, hr, rfl⟩
      · cases e
    · cases h
theorem del_ok {O : Od} {m : Mg} (h : O.ok) (hm : m ∈ headsO O) : (delO O m).ok := by
  obtain ⟨p, hp, _, h1, h2, h3, h4⟩ := head_is h hm
  have e : m.f.toNat = p := by omega
  refine ⟨h.m, h.me0, h.me1, h.hz, h.num, h.st, fun q hq => ?_, fun q hq => ?_⟩
  · show O.S.lo q ≤ updF O.dn m.f.toNat (O.dn m.f.toNat + 1) q
    have := h.lo q hq
    rw [e]
    by_cases e2 : q = p
    · subst e2; rw [updF_same]; omega
    · rw [updF_other _ _ _ _ e2]; exact this
  · show updF O.dn m.f.toNat (O.dn m.f.toNat + 1) q ≤ O.S.cnt q
    rw [e]
    by_cases e2 : q = p
    · subst e2; rw [updF_same]; omega
    · rw [updF_other _ _ _ _ e2]; exact h.dc q hq
theorem next_ok {O O' : Od} {m : Mg} (h : O.ok) (hn : nextO O = some (m, O')) : O'.ok := by
  obtain ⟨_, h2, _, rfl⟩ := nextO_is hn
  exact del_ok h h2
/-- How many are left. -/
def leftK (O : Od) : Nat → Nat
  | 0 => 0
  | k + 1 => leftK O k + (O.S.cnt k - O.dn k)
def leftO (O : Od) : Nat := leftK O 64
theorem left_same (O : Od) (p n : Nat) (x : K) : ∀ k, k ≤ p → leftK { O with dn := updF O.dn p n, last := x } k = leftK O k
  | 0, _ => rfl
  | k + 1, h => by
    unfold leftK
    rw [left_same O p n x k (by omega)]
    show _ + (O.S.cnt k - updF O.dn p n k) = _
    rw [updF_other _ _ _ _ (by omega)]
theorem left_del (O : Od) (p : Nat) (x : K) (hd : O.dn p < O.S.cnt p) : ∀ k, p < k → leftK { O with dn := updF O.dn p (O.dn p + 1), last := x } k + 1 = leftK O k
  | 0, h => absurd h (Nat.not_lt_zero _)
  | k + 1, h => by
    unfold leftK
    show leftK { O with dn := updF O.dn p (O.dn p + 1), last := x } k + (O.S.cnt k - updF O.dn p (O.dn p + 1) k) + 1 = _
    by_cases e : p = k
    · subst e
      rw [left_same O p _ x p (Nat.le_refl _), updF_same]
      omega
    · rw [updF_other _ _ _ _ (by omega)]
      have := left_del O p x hd k (by omega)
      omega
theorem next_left {O O' : Od} {m : Mg} (h : O.ok) (hn : nextO O = some (m, O')) : leftO O' + 1 = leftO O := by
  obtain ⟨_, h2, _, rfl⟩ := nextO_is hn
  obtain ⟨p, hp, _, h1, _, h3, h4⟩ := head_is h h2
  have e : m.f.toNat = p := by omega
  unfold delO leftO
  rw [e]
  exact left_del O p m.key h3 64 hp
/-- All that Next tells. -/
def drainF : Nat → Od → List Mg × Od
  | 0, O => ([], O)
  | n + 1, O => match nextO O with
    | none => ([], O)
    | some (m, O') => (m :: (drainF n O').1, (drainF n O').2)
inductive Drains : Od → List Mg → Od → Prop
  | stop {O : Od} (h : nextO O = none) : Drains O [] O
  | more {O O1 O2 : Od} {m : Mg} {l : List Mg} (h : nextO O = some (m, O1)) (k : Drains O1 l O2) : Drains O (m :: l) O2
theorem Drains.one {O P Q : Od} {l r : List Mg} (h : Drains O l P) (k : Drains O r Q) : l = r ∧ P = Q := by
  induction h generalizing r Q with
  | stop h =>
    cases k with
    | stop _ => exact ⟨rfl, rfl⟩
    | more h' _ => rw [h] at h'; cases h'
  | more h _ ih =>
    cases k with
    | stop h' => rw [h] at h'; cases h'
    | more h' k' =>
      rw [h] at h'
      injection h' with h'
      injection h' with e1 e2
      subst e1 e2
      obtain ⟨e3, e4⟩ := ih k'
      exact ⟨by rw [e3], e4⟩
theorem drains_ex : ∀ (n : Nat) (O : Od), O.ok → leftO O ≤ n → ∃ l P, Drains O l P
  | n, O, h, hn => by
    cases hx : nextO O with
    | none => exact ⟨[], O, .stop hx⟩
    | some y =>
      obtain ⟨m, O'⟩ := y
      have h1 := next_left h hx
      match n, hn with
      | 0, hn => omega
      | n + 1, hn =>
        obtain ⟨l, P, k⟩ := drains_ex n O' (next_ok h hx) (by omega)
        exact ⟨m :: l, P, .more hx k⟩
/-- Next as often as it tells one. -/
def drainO (O : Od) : List Mg × Od := drainF (leftO O) O
theorem drainF_is : ∀ (n : Nat) (O : Od), O.ok → leftO O ≤ n → Drains O (drainF n O).1 (drainF n O).2
  | 0, O, h, hn => by
    cases hx : nextO O with
    | none => exact .stop hx
    | some y => obtain ⟨m, O'⟩ := y; have := next_left h hx; omega
  | n + 1, O, h, hn => by
    unfold drainF
    cases hx : nextO O with
    | none => exact .stop hx
    | some y =>
      obtain ⟨m, O'⟩ := y
      have := next_left h hx
      exact .more hx (drainF_is n O' (next_ok h hx) (by omega))
theorem drainO_is {O : Od} (h : O.ok) : Drains O (drainO O).1 (drainO O).2 := drainF_is _ O h (Nat.le_refl _)
theorem Drains.eq {O P : Od} {l : List Mg} (h : O.ok) (k : Drains O l P) : drainO O = (l, P) := by
  obtain ⟨e1, e2⟩ := k.one (drainO_is h)
  rw [e1, e2]
theorem Drains.ok {O P : Od} {l : List Mg} (k : Drains O l P) (h : O.ok) : P.ok := by
  induction k with
  | stop _ => exact h
  | more h1 _ ih => exact ih (next_ok h h1)
theorem Drains.left {O P : Od} {l : List Mg} (k : Drains O l P) (h : O.ok) : leftO P + l.length = leftO O := by
  induction k with
  | stop _ => rfl
  | more h1 _ ih =>
    have := ih (next_ok h h1)
    have := next_left h h1
    rw [List.length_cons]; omega
theorem Drains.same {O P : Od} {l : List Mg} (k : Drains O l P) : P.S = O.S ∧ P.H = O.H ∧ P.ms = O.ms ∧ P.me = O.me := by
  induction k with
  | stop _ => exact ⟨rfl, rfl, rfl, rfl⟩
  | more h1 _ ih =>
    obtain ⟨_, _, _, rfl⟩ := nextO_is h1
    exact ih

def trimO (O : Od) (p : Int) (upto : Nat) : Od := if mem O.ms p then { O with S := dropS O.S p (min upto (O.dn p.toNat)) } else O
theorem drop_is {S : Hs} {p : Int} {k : Nat} (hk : k < 64) (hp : p = (k : Int)) (upto : Nat) : dropS S p upto = ⟨updF S.lo k (S.lo k + dropN S k upto), updF S.R k ((S.R k).drop (dropN S k upto))⟩ := by
  subst hp
  unfold dropS
  rw [if_pos (by omega), Int.toNat_natCast]
theorem drop_cnt (S : Hs) (p : Int) (upto q : Nat) : (dropS S p upto).cnt q = S.cnt q := by
  rcases proc_cases p with ⟨k, hp, hk⟩ | hp
  · rw [drop_is hk hp]
    unfold Hs.cnt
    show updF S.lo k _ q + (updF S.R k _ q).length = _
    by_cases e : q = k
    · subst e
      rw [updF_same, updF_same, List.length_drop]
      have : dropN S q upto ≤ (S.R q).length := by unfold dropN; omega
      omega
    · rw [updF_other _ _ _ _ e, updF_other _ _ _ _ e]
  · unfold dropS; rw [if_neg hp]
theorem trim_ok {O : Od} (h : O.ok) (p : Int) (upto : Nat) : (trimO O p upto).ok := by
  unfold trimO
  cases hM : mem O.ms p with
  | false => exact h
  | true =>
    rw [if_pos rfl]
    have hp : 0 ≤ p ∧ p < 64 := by unfold mem at hM; simp at hM; exact hM.1
    obtain ⟨k, hk⟩ := Int.eq_ofNat_of_zero_le hp.1
    have hk64 : k < 64 := by omega
    have hkt : p.toNat = k := by omega
    rw [hkt]
    have hD : dropN O.S k (min upto (O.dn k)) ≤ (O.S.R k).length := by unfold dropN; omega
    have hD2 : O.S.lo k + dropN O.S k (min upto (O.dn k)) ≤ O.dn k := by have := h.lo k hk64; unfold dropN; omega
    have hcnt := drop_cnt O.S p (min upto (O.dn k))
    have hS := drop_is (S := O.S) hk64 hk (min upto (O.dn k))
    rw [hS] at hcnt ⊢
    generalize dropN O.S k (min upto (O.dn k)) = D at *
    refine ⟨h.m, h.me0, h.me1, h.hz, fun q hq i x hx => ?_, fun q hq x hx => ?_, fun q hq => ?_, fun q hq => ?_⟩
    · change (updF O.S.R k ((O.S.R k).drop D) q)[i]? = some x at hx
      show x.f = (q : Int) ∧ x.q = ((updF O.S.lo k (O.S.lo k + D) q : Nat) : Int) + i + 1
      by_cases e : q = k
      · subst e
        rw [updF_same] at hx ⊢
        rw [List.getElem?_drop] at hx
        have := h.num q hq _ x hx
        omega
      · rw [updF_other _ _ _ _ e] at hx ⊢
        exact h.num q hq i x hx
    · change x ∈ updF O.S.R k ((O.S.R k).drop D) q at hx
      by_cases e : q = k
      · subst e
        rw [updF_same] at hx
        exact h.st q hq x (List.mem_of_mem_drop hx)
      · rw [updF_other _ _ _ _ e] at hx
        exact h.st q hq x hx
    · show updF O.S.lo k (O.S.lo k + D) q ≤ O.dn q
      by_cases e : q = k
      · subst e; rw [updF_same]; exact hD2
      · rw [updF_other _ _ _ _ e]; exact h.lo q hq
    · show O.dn q ≤ Hs.cnt _ q
      rw [hcnt]; exact h.dc q hq

/-- What is left of what is held. -/
def leftM (O : Od) (x : Mg) : Bool := !decide (x.q ≤ (O.dn x.f.toNat : Int))
def IsRest (O : Od) (Z : List Mg) : Prop := IsSrt Mg.key ((catF O.S.R ⟨0, -1⟩ 64).filter (leftM O)) Z
theorem IsRest.one {O : Od} {Y Z : List Mg} (h : IsRest O Y) (k : IsRest O Z) : Y = Z := IsSrt.one h k
theorem srt_filter {L M : List Mg} (h : IsSrt Mg.key L M) (f : Mg → Bool) : IsSrt Mg.key (L.filter f) (M.filter f) := by
  refine ⟨h.srt.sublist List.filter_sublist, fun c => ?_⟩
  rw [List.filter_filter, List.filter_filter]
  have e : ∀ (X : List Mg), X.filter (fun x => decide (x.key = c) && f x) = (X.filter (fun x => decide (x.key = c))).filter f := fun X => by
    rw [List.filter_filter]
    refine List.filter_congr fun x _ => ?_
    rw [Bool.and_comm]
  rw [e, e, h.fil c]
theorem IsRest.of {O : Od} {Y : List Mg} (h : IsSrt Mg.key (catF O.S.R ⟨0, -1⟩ 64) Y) : IsRest O (Y.filter (leftM O)) := srt_filter h _
/-- An act of the laws. -/
structure OA where
  kind : Int
  p : Int
  m : Mg
  seq : Nat
  st : Nat
theorem zlists : ∀ (O : Od), O.ok → ∀ p, p < 64 → ∀ x ∈ O.S.R p, x.f = (p : Int) := fun O h p hp x hx => by
  obtain ⟨i, hi⟩ := List.getElem?_of_mem hx
  exact (h.num p hp i x hi).1
end Go.Proofs.Ytfocjcdfpnbkjaa
