/- Stable records and items as bytes: plain facts, without the program: what is written, what is read, and that each is the other's. -/
import Derived.Test.YtblefbjmjhgkkaaZPacketMath
import Derived.Test.YtblefbjmjhgkkaaZVoMath
set_option linter.unusedVariables false
set_option maxRecDepth 100000
set_option linter.unusedSimpArgs false
namespace Go.Proofs.Ytblefbjmjhgkkaa

/-! ### Views and records -/
def getVw (l : List UInt8) : Got Vw := andG (getN 8 l) fun n r => andG (getN 8 r) fun e r => andG (getP r) fun p r => andG (getN 8 r) fun m r => .ok (⟨n, e, p, m⟩, r)
structure Vw.fits (v : Vw) : Prop where
  n : v.n < 256 ^ 8
  e : v.e < 256 ^ 8
  r : Proc v.r
  m : v.m < 256 ^ 8
def putVw (v : Vw) : List UInt8 := pb 8 v.n ++ (pb 8 v.e ++ (putP v.r ++ pb 8 v.m))
theorem putVw_length (v : Vw) : (putVw v).length = 25 := by unfold putVw; simp only [List.length_append, pb_length, putP_length]
theorem getVw_iff {l : List UInt8} {v : Vw} {r : List UInt8} : getVw l = .ok (v, r) ↔ v.fits ∧ l = putVw v ++ r := by
  unfold getVw putVw
  simp only [andG_iff, getN_iff, getP_iff, Except.ok.injEq, Prod.mk.injEq]
  constructor
  · rintro ⟨n, _, ⟨h1, rfl⟩, e, _, ⟨h2, rfl⟩, p, _, ⟨h3, rfl⟩, m, _, ⟨h4, rfl⟩, rfl, rfl⟩
    exact ⟨⟨h1, h2, h3, h4⟩, by simp⟩
  · rintro ⟨⟨h1, h2, h3, h4⟩, rfl⟩
    exact ⟨_, _, ⟨h1, by simp only [List.append_assoc]⟩, _, _, ⟨h2, rfl⟩, _, _, ⟨h3, rfl⟩, _, _, ⟨h4, rfl⟩, rfl, rfl⟩
def getVws : Nat → List UInt8 → Got (List Vw)
  | 0, l => .ok ([], l)
  | n + 1, l => andG (getVw l) fun v r => andG (getVws n r) fun vs r => .ok (v :: vs, r)
def putVws : List Vw → List UInt8
  | [] => []
  | v :: vs => putVw v ++ putVws vs
theorem putVws_length : ∀ (l : List Vw), (putVws l).length = 25 * l.length
  | [] => rfl
  | v :: vs => by unfold putVws; rw [List.length_append, putVw_length, putVws_length vs, List.length_cons]; omega
theorem putVws_snoc : ∀ (l : List Vw) (v : Vw), putVws (l ++ [v]) = putVws l ++ putVw v
  | [], v => by simp [putVws]
  | x :: l, v => by rw [List.cons_append]; unfold putVws; rw [putVws_snoc l v, List.append_assoc]
def Fits (l : List Vw) : Prop := ∀ v ∈ l, v.fits
theorem getVws_iff : ∀ {n : Nat} {l : List UInt8} {vs : List Vw} {r : List UInt8}, getVws n l = .ok (vs, r) ↔ vs.length = n ∧ Fits vs ∧ l = putVws vs ++ r
  | 0, l, vs, r => by
    unfold getVws
    simp only [Except.ok.injEq, Prod.mk.injEq]
    constructor
    · rintro ⟨rfl, rfl⟩; exact ⟨rfl, (fun v h => by cases h), rfl⟩
    · rintro ⟨h, _, rfl⟩
      obtain rfl : vs = [] := List.eq_nil_of_length_eq_zero h
      exact ⟨rfl, rfl⟩
  | n + 1, l, vs, r => by
    unfold getVws
    simp only [andG_iff, getVw_iff, getVws_iff, Except.ok.injEq, Prod.mk.injEq]
    constructor
    · rintro ⟨v, m, ⟨h1, rfl⟩, us, m', ⟨h2, h3, rfl⟩, rfl, rfl⟩
      refine ⟨by rw [List.length_cons, h2], ?_, by simp [putVws]⟩
      intro x hx
      rcases List.mem_cons.1 hx with rfl | hx
      · exact h1
      · exact h3 x hx
    · rintro ⟨h, hw, rfl⟩
      match vs, h, hw with
      | v :: us, h, hw => exact ⟨v, _, ⟨hw v (List.mem_cons_self ..), by simp [putVws]⟩, us, r, ⟨by simpa using h, fun x hx => hw x (List.mem_cons_of_mem _ hx), rfl⟩, rfl, rfl⟩
def getRec (l : List UInt8) : Got Rp := andG (getVw l) fun v r => andG (getN 1 r) fun n r => badG 3 (32 < n) (andG (getVws n r) fun vs r => .ok (⟨v, vs⟩, r))
structure Rp.fits (x : Rp) : Prop where
  last : x.last.fits
  few : x.pend.length ≤ 32
  pend : Fits x.pend
def putRec (x : Rp) : List UInt8 := putVw x.last ++ (pb 1 x.pend.length ++ putVws x.pend)
theorem putRec_length (x : Rp) : (putRec x).length = 26 + 25 * x.pend.length := by unfold putRec; simp only [List.length_append, putVw_length, pb_length, putVws_length]; omega
theorem getRec_iff {l : List UInt8} {x : Rp} {r : List UInt8} : getRec l = .ok (x, r) ↔ x.fits ∧ l = putRec x ++ r := by
  unfold getRec putRec
  simp only [andG_iff, badG_iff, getN_iff, getVw_iff, getVws_iff, Except.ok.injEq, Prod.mk.injEq]
  constructor
  · rintro ⟨v, _, ⟨h1, rfl⟩, n, _, ⟨h2, rfl⟩, h3, vs, _, ⟨h4, h5, rfl⟩, rfl, rfl⟩
    exact ⟨⟨h1, by show vs.length ≤ 32; omega, h5⟩, by simp [h4]⟩
  · rintro ⟨⟨h1, h2, h3⟩, rfl⟩
    exact ⟨_, _, ⟨h1, by simp only [List.append_assoc]⟩, x.pend.length, _, ⟨by omega, rfl⟩, by omega, _, _, ⟨rfl, h3, rfl⟩, rfl, rfl⟩
/-- What is wrong with one that is to be written: the first from the front. -/
def errVw (v : Vw) : Nat := errP v.r
def errVws : List Vw → Nat
  | [] => 0
  | v :: vs => orN (errVw v) (errVws vs)
def errRec (x : Rp) : Nat := orN (errVw x.last) (orN (if 32 < x.pend.length then 3 else 0) (errVws x.pend))
theorem errVw_iff {v : Vw} (h : v.ok) : errVw v = 0 ↔ v.fits := by
  unfold errVw
  rw [errP_iff]
  exact ⟨fun g => ⟨h.n, h.e, g, h.m⟩, fun g => g.r⟩
theorem errVws_iff : ∀ {l : List Vw}, (∀ v ∈ l, v.ok) → (errVws l = 0 ↔ Fits l)
  | [], _ => ⟨fun _ v hv => (by cases hv), fun _ => rfl⟩
  | v :: vs, h => by
    unfold errVws
    rw [orN_zero, errVw_iff (h v (by simp)), errVws_iff (fun x hx => h x (List.mem_cons_of_mem _ hx))]
    constructor
    · rintro ⟨h1, h2⟩ x hx
      rcases List.mem_cons.1 hx with rfl | hx
      · exact h1
      · exact h2 x hx
    · intro g
      exact ⟨g v (by simp), fun x hx => g x (List.mem_cons_of_mem _ hx)⟩
theorem errVws_snoc : ∀ (l : List Vw) (v : Vw), errVws (l ++ [v]) = orN (errVws l) (errVw v)
  | [], v => by
    simp [errVws, orN]
    exact fun h => h.symm
  | x :: l, v => by
    rw [List.cons_append]
    unfold errVws
    rw [errVws_snoc l v]
    unfold orN
    split <;> rfl
theorem errRec_iff {x : Rp} (h : x.ok) : errRec x = 0 ↔ x.fits := by
  unfold errRec
  rw [orN_zero, orN_zero, errVw_iff h.last, errVws_iff h.pend]
  constructor
  · rintro ⟨h1, h2, h3⟩
    exact ⟨h1, Classical.byContradiction (fun g => by rw [if_pos (by omega)] at h2; cases h2), h3⟩
  · rintro ⟨h1, h2, h3⟩
    exact ⟨h1, if_neg (by omega), h3⟩

/-! ### Stable records -/
structure Stb where
  ep : Nat
  inc : Nat
  r : Rp
structure Stb.ok (s : Stb) : Prop where
  ep : s.ep < 18446744073709551616
  inc : s.inc < 4294967296
  r : s.r.ok
structure Stb.fits (s : Stb) : Prop where
  ep : s.ep < 256 ^ 8
  inc : s.inc < 256 ^ 4
  r : s.r.fits
def putS (s : Stb) : List UInt8 := pb 1 1 ++ (pb 8 s.ep ++ (pb 4 s.inc ++ putRec s.r))
theorem putS_length (s : Stb) : (putS s).length = 39 + 25 * s.r.pend.length := by unfold putS; simp only [List.length_append, pb_length, putRec_length]; omega
def getS (l : List UInt8) : Got Stb := andG (getN 1 l) fun k r => badG 10 (k ≠ 1) (andG (getN 8 r) fun e r => andG (getN 4 r) fun i r => andG (getRec r) fun x r => .ok (⟨e, i, x⟩, r))
theorem getS_iff {l : List UInt8} {s : Stb} {r : List UInt8} : getS l = .ok (s, r) ↔ s.fits ∧ l = putS s ++ r := by
  unfold getS putS
  simp only [andG_iff, badG_iff, getN_iff, getRec_iff, Except.ok.injEq, Prod.mk.injEq]
  constructor
  · rintro ⟨k, _, ⟨h1, rfl⟩, h2, e, _, ⟨h3, rfl⟩, i, _, ⟨h4, rfl⟩, x, _, ⟨h5, rfl⟩, rfl, rfl⟩
    have h2 : k = 1 := Classical.byContradiction h2
    subst h2
    exact ⟨⟨h3, h4, h5⟩, by simp⟩
  · rintro ⟨⟨h1, h2, h3⟩, rfl⟩
    exact ⟨1, _, ⟨by decide, by simp only [List.append_assoc]⟩, fun h => h rfl, _, _, ⟨h1, rfl⟩, _, _, ⟨h2, rfl⟩, _, _, ⟨h3, rfl⟩, rfl, rfl⟩
/-- Nothing may be left. -/
def endG {α : Type} (x : Got α) : Except Nat α := match x with
  | .error e => .error e
  | .ok (a, []) => .ok a
  | .ok (_, _ :: _) => .error 4
theorem endG_iff {α : Type} {x : Got α} {a : α} : endG x = .ok a ↔ x = .ok (a, []) := by
  unfold endG
  split
  · simp_all
  · simp_all
  · simp_all
def parseS (l : List UInt8) : Except Nat Stb := endG (getS l)
theorem parseS_iff {l : List UInt8} {s : Stb} : parseS l = .ok s ↔ s.fits ∧ l = putS s := by
  unfold parseS
  rw [endG_iff, getS_iff, List.append_nil]

/-! ### Items -/
structure Itm where
  k : Int
  data : List UInt8
  inc : Nat
  holds : Nat
  has : Bool
  direct : Bool
  r : Rp
  view : Vw
  num : Nat
  idx : Int
  tot : Int
def zeroRp : Rp := ⟨zeroV, []⟩
def zeroI : Itm := ⟨0, [], 0, 0, false, false, zeroRp, zeroV, 0, 0, 0⟩
def flagsN (a b : Bool) : Nat := a.toNat + 2 * b.toNat
theorem flagsN_le (a b : Bool) : flagsN a b ≤ 3 := by cases a <;> cases b <;> decide
theorem flags_back (a b : Bool) : decide (flagsN a b % 2 = 1) = a ∧ decide (flagsN a b / 2 = 1) = b := by cases a <;> cases b <;> decide
theorem flags_of (f : Nat) (h : f ≤ 3) : flagsN (decide (f % 2 = 1)) (decide (f / 2 = 1)) = f := by
  have : f = 0 ∨ f = 1 ∨ f = 2 ∨ f = 3 := by omega
  rcases this with rfl | rfl | rfl | rfl <;> decide
/-- What stands behind the kind, by the kind. -/
def bodyI (x : Itm) : List UInt8 :=
  if x.k = 1 then x.data
  else if x.k = 2 then pb 4 x.inc ++ (pb 8 x.holds ++ (pb 1 (flagsN x.has x.direct) ++ putRec x.r))
  else if x.k = 3 then putVw x.view
  else pb 8 x.num ++ (pb 2 x.idx.toNat ++ (pb 2 x.tot.toNat ++ x.data))
def putI (x : Itm) : List UInt8 := pb 1 x.k.toNat ++ bodyI x
/-- The fields that its row names; the others are of nought. -/
def cleanI (x : Itm) : Itm :=
  if x.k = 1 then { zeroI with k := 1, data := x.data }
  else if x.k = 2 then { zeroI with k := 2, inc := x.inc, holds := x.holds, has := x.has, direct := x.direct, r := x.r }
  else if x.k = 3 then { zeroI with k := 3, view := x.view }
  else { zeroI with k := x.k, num := x.num, idx := x.idx, tot := x.tot, data := x.data }
/-- Its numbers fit, as far as its row names them. -/
def fitsI (x : Itm) : Prop :=
  if x.k = 1 then True
  else if x.k = 2 then x.inc < 256 ^ 4 ∧ x.holds < 256 ^ 8 ∧ x.r.fits
  else if x.k = 3 then x.view.fits
  else x.k = 4 ∧ x.num < 256 ^ 8 ∧ (0 ≤ x.idx ∧ x.idx ≤ 65535) ∧ (0 ≤ x.tot ∧ x.tot ≤ 65535)
theorem clean_cleanI (x : Itm) : cleanI (cleanI x) = cleanI x := by
  unfold cleanI
  by_cases h1 : x.k = 1
  · simp [h1]
  · by_cases h2 : x.k = 2
    · simp [h2]
    · by_cases h3 : x.k = 3
      · simp [h3]
      · simp [h1, h2, h3]
theorem put_cleanI (x : Itm) : putI (cleanI x) = putI x := by
  unfold putI bodyI cleanI
  by_cases h1 : x.k = 1
  · simp [h1]
  · by_cases h2 : x.k = 2
    · simp [h2]
    · by_cases h3 : x.k = 3
      · simp [h3]
      · simp [h1, h2, h3]
theorem fits_cleanI (x : Itm) : fitsI (cleanI x) ↔ fitsI x := by
  unfold fitsI cleanI
  by_cases h1 : x.k = 1
  · simp [h1]
  · by_cases h2 : x.k = 2
    · simp [h2]
    · by_cases h3 : x.k = 3
      · simp [h3]
      · simp [h1, h2, h3]
/-- What is read behind the kind. -/
def getBody (k : Nat) (l : List UInt8) : Except Nat Itm :=
  if k = 1 then .ok { zeroI with k := 1, data := l }
  else if k = 2 then endG (andG (getN 4 l) fun i r => andG (getN 8 r) fun h r => andG (getN 1 r) fun f r => badG 1 (3 < f) (andG (getRec r) fun x r => .ok ({ zeroI with k := 2, inc := i, holds := h, has := decide (f % 2 = 1), direct := decide (f / 2 = 1), r := x }, r)))
  else if k = 3 then endG (andG (getVw l) fun v r => .ok ({ zeroI with k := 3, view := v }, r))
  else endG (andG (getN 8 l) fun n r => andG (getN 2 r) fun i r => andG (getN 2 r) fun t r => .ok ({ zeroI with k := 4, num := n, idx := (i : Int), tot := (t : Int), data := r }, []))
def parseI (l : List UInt8) : Except Nat Itm := match getN 1 l with
  | .error e => .error e
  | .ok (k, r) => if k < 1 ∨ 4 < k then .error 10 else if 1024 < l.length then .error 3 else getBody k r
theorem getBody_iff {k : Nat} {l : List UInt8} {y : Itm} (hk : 1 ≤ k ∧ k ≤ 4) : getBody k l = .ok y ↔ y.k = (k : Int) ∧ fitsI y ∧ cleanI y = y ∧ l = bodyI y := by
  have hc : k = 1 ∨ k = 2 ∨ k = 3 ∨ k = 4 := by omega
  unfold getBody fitsI cleanI bodyI
  rcases hc with rfl | rfl | rfl | rfl
  · rw [if_pos rfl]
    constructor
    · intro h
      cases h
      simp
    · rintro ⟨h1, _, h3, h4⟩
      have h1 : y.k = 1 := h1
      simp only [h1, if_true] at h3 h4
      rw [h4, h3]
  · rw [if_neg (by decide), if_pos rfl, endG_iff]
    simp only [andG_iff, badG_iff, getN_iff, getRec_iff, Except.ok.injEq, Prod.mk.injEq]
    constructor
    · rintro ⟨i, _, ⟨h1, rfl⟩, h, _, ⟨h2, rfl⟩, f, _, ⟨_, rfl⟩, h3, x, _, ⟨h4, rfl⟩, rfl, rfl⟩
      have hf := flags_of f (by omega)
      simp [h1, h2, h4, hf]
    · rintro ⟨h1, h2, h3, h4⟩
      have h1 : y.k = 2 := h1
      simp [h1] at h2 h3 h4
      obtain ⟨g1, g2, g3⟩ := h2
      refine ⟨y.inc, _, ⟨g1, h4⟩, y.holds, _, ⟨g2, rfl⟩, flagsN y.has y.direct, _, ⟨by have := flagsN_le y.has y.direct; omega, rfl⟩, by have := flagsN_le y.has y.direct; omega, y.r, [], ⟨g3, by simp⟩, ?_, rfl⟩
      rw [(flags_back y.has y.direct).1, (flags_back y.has y.direct).2]
      exact h3
  · rw [if_neg (by decide), if_neg (by decide), if_pos rfl, endG_iff]
    simp only [andG_iff, getVw_iff, Except.ok.injEq, Prod.mk.injEq]
    constructor
    · rintro ⟨v, _, ⟨h1, rfl⟩, rfl, rfl⟩
      simp [h1]
    · rintro ⟨h1, h2, h3, h4⟩
      have h1 : y.k = 3 := h1
      simp [h1] at h2 h3 h4
      exact ⟨y.view, [], ⟨h2, by simp [h4]⟩, h3, rfl⟩
  · rw [if_neg (by decide), if_neg (by decide), if_neg (by decide), endG_iff]
    simp only [andG_iff, getN_iff, Except.ok.injEq, Prod.mk.injEq]
    constructor
    · rintro ⟨n, _, ⟨h1, rfl⟩, i, _, ⟨h2, rfl⟩, t, r, ⟨h3, rfl⟩, rfl, _⟩
      simp [h1]
      omega
    · rintro ⟨h1, h2, h3, h4⟩
      have h1 : y.k = 4 := h1
      simp [h1] at h2 h3 h4
      obtain ⟨g1, g2, g3⟩ := h2
      refine ⟨y.num, _, ⟨g1, h4⟩, y.idx.toNat, _, ⟨by omega, rfl⟩, y.tot.toNat, y.data, ⟨by omega, rfl⟩, ?_, trivial⟩
      rw [Int.toNat_of_nonneg g2.1, Int.toNat_of_nonneg g3.1]
      exact h3
theorem parseI_iff {l : List UInt8} {y : Itm} : parseI l = .ok y ↔ (1 ≤ y.k ∧ y.k ≤ 4) ∧ fitsI y ∧ cleanI y = y ∧ l = putI y ∧ l.length ≤ 1024 := by
  unfold parseI putI
  constructor
  · intro h
    split at h
    · cases h
    · rename_i k r hg
      obtain ⟨hk, rfl⟩ := getN_iff.1 hg
      by_cases h1 : k < 1 ∨ 4 < k
      · rw [if_pos h1] at h; cases h
      · rw [if_neg h1] at h
        by_cases h2 : 1024 < (pb 1 k ++ r).length
        · rw [if_pos h2] at h; cases h
        · rw [if_neg h2] at h
          obtain ⟨g1, g2, g3, g4⟩ := (getBody_iff (by omega)).1 h
          refine ⟨by omega, g2, g3, ?_, by omega⟩
          rw [g1, g4]; rfl
  · rintro ⟨h1, h2, h3, rfl, h5⟩
    have hg : getN 1 (pb 1 y.k.toNat ++ bodyI y) = .ok (y.k.toNat, bodyI y) := getN_iff.2 ⟨by omega, rfl⟩
    rw [hg]
    simp only
    rw [if_neg (by omega), if_neg (by omega)]
    exact (getBody_iff (by omega)).2 ⟨by omega, h2, h3, rfl⟩
/-- What was printed is parsed as it was, as far as its row names it. -/
theorem parse_putI (x : Itm) (hk : 1 ≤ x.k ∧ x.k ≤ 4) (h : fitsI x) (hl : (putI x).length ≤ 1024) : parseI (putI x) = .ok (cleanI x) := by
  have hkc : (cleanI x).k = x.k := by
    unfold cleanI
    by_cases h1 : x.k = 1
    · simp [h1]
    · by_cases h2 : x.k = 2
      · simp [h2]
      · by_cases h3 : x.k = 3
        · simp [h3]
        · simp [h1, h2, h3]
  exact parseI_iff.2 ⟨by rw [hkc]; exact hk, (fits_cleanI x).2 h, clean_cleanI x, (put_cleanI x).symm, hl⟩
/-- What is wrong with an item that is to be printed. -/
def errI (x : Itm) : Nat :=
  if x.k = 1 then 0
  else if x.k = 2 then errRec x.r
  else if x.k = 3 then errVw x.view
  else if x.k = 4 then (if x.idx < 0 ∨ 65535 < x.idx ∨ x.tot < 0 ∨ 65535 < x.tot then 1 else 0)
  else 10
def codeI (x : Itm) : Nat := orN (errI x) (if 1024 < (putI x).length then 3 else 0)
structure Itm.ok (x : Itm) : Prop where
  inc : x.inc < 4294967296
  holds : x.holds < 18446744073709551616
  r : x.r.ok
  view : x.view.ok
  num : x.num < 18446744073709551616
theorem errI_iff {x : Itm} (h : x.ok) : errI x = 0 ↔ (1 ≤ x.k ∧ x.k ≤ 4) ∧ fitsI x := by
  unfold errI fitsI
  by_cases h1 : x.k = 1
  · simp [h1]
  · by_cases h2 : x.k = 2
    · simp [h2]
      rw [errRec_iff h.r]
      exact ⟨fun g => ⟨h.inc, h.holds, g⟩, fun g => g.2.2⟩
    · by_cases h3 : x.k = 3
      · simp [h3]
        exact errVw_iff h.view
      · by_cases h4 : x.k = 4
        · simp [h4]
          have hn := h.num
          constructor
          · intro g; exact ⟨hn, by omega, by omega⟩
          · intro g; omega
        · simp only [h1, h2, h3, h4, if_false]
          constructor
          · intro g; omega
          · intro g; omega
/-- A state's item is short, whatever its record may be. -/
theorem putI_state (x : Itm) (hk : x.k = 2) (h : x.r.pend.length ≤ 32) : (putI x).length = 40 + 25 * x.r.pend.length := by
  unfold putI bodyI
  rw [if_neg (by omega), if_pos hk]
  simp only [List.length_append, pb_length, putRec_length]
  omega
end Go.Proofs.Ytblefbjmjhgkkaa
